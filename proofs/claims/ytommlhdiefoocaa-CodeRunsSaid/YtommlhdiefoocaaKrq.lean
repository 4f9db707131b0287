/- The fixed-point machine: the reference's Result (2). -/
import Derived.Test.YtommlhdiefoocaaKrp
set_option linter.unusedVariables false
namespace Go.Proofs.Ytommlhdiefoocaa
open Go Go.RowKit
theorem shI_wd {x k : Int} (h : wdB x = true) (h4 : k ≤ 30) : -2305843009213693952 ≤ shI x k ∧ shI x k ≤ 2305843009213693952 := by
  have a := shC_wd h h4
  have b := wdB_iff.1 h
  unfold shC at a
  unfold shI
  split
  · rename_i hk; rw [if_pos hk] at a; exact a
  · rename_i hk; rw [if_neg hk, kcl_id (by omega) (by omega)] at a; exact a
theorem rd_set7 {w : World} {A : Option Addr} {n g : Nat} {f : Nat → Nat} (h : Rd w A n f) (hne : 0 < n → ∀ a, A = some a → a.block ≠ g) (i : Nat) (u : Value) : Rd (w.setCell ⟨g, i, none⟩ u) A n f := fun hn => (h.set (hne hn) i u) hn
theorem on_blk {w : World} {b n c : Nat} {A : Option Addr} {f : Nat → Nat} (h : On w b A n c f) (hn : 0 < n) (a : Addr) (ha : A = some a) : b ≤ a.block ∧ a.block < w.heap.size := by
  refine ⟨Nat.not_lt.1 fun hlt => h.ne hlt a ha rfl, ?_⟩
  obtain ⟨b', o, e, hb', _⟩ := h.rd hn
  rw [e] at ha; cases ha; exact hb'
theorem one_newq {w w1 : World} {v0 v1 v2 : Value} {t : TypeId} (hx : Ext (w.alloc (.cells #[v0, v1, v2] t)).drew w1) : Bx w1 w.heap.size v0 v1 v2 := (Bx.new w v0 v1 v2 t).ext ((Ext.drew _).trans hx)
/-- A number in a box of its own. -/
def BoS (W wx : World) (g : Nat) (d : DV) (A : Option Addr) (y : Nat) : Prop :=
  Ext W wx ∧ St wx g (.bool d.neg) (.slice A (len d.m) y) (I d.den) ∧ g < wx.heap.size ∧ Rd wx A (len d.m) (dg d.m) ∧ SlOk A (len d.m) y ∧ (0 < len d.m → ∀ a, A = some a → W.heap.size ≤ a.block)
theorem St.ext7 {w w' : World} {g : Nat} {v0 v1 v2 : Value} (h : St w g v0 v1 v2) (hg : g < w.heap.size) (e : Ext w w') : St w' g v0 v1 v2 :=
  ⟨(e.old.1 _ _ hg).trans h.1, (e.old.1 _ _ hg).trans h.2.1, (e.old.1 _ _ hg).trans h.2.2⟩
set_option maxRecDepth 100000 in
set_option maxHeartbeats 1000000 in
theorem rres_2 {w : World} {dst sa sb im : Int} {a : Nat} {b : Int} {Ac Ai : Option Addr} {nc cc np ci : Nat} {c IN : Nat → Int} (rc : Ri w Ac nc c) (hA : a < nc) (hc : ∀ i, i < nc → wdB (c i) = true) (h1 : -62 ≤ sa) (h2 : sa ≤ 30) :
    Calls Try.prog 38 #[insV ⟨2, dst, a, b, sa, sb, im⟩, .slice Ac nc cc, .slice Ai np ci] w (DyRd (ofI (reI ⟨2, dst, a, b, sa, sb, im⟩ c IN) 0) w) := by
  obtain ⟨W1, hW1⟩ : ∃ W1, W1 = (w.alloc (.cells #[I 2, I dst, I a, I b, I sa, I sb, I im] 52)).alloc (.cells #[.bool false, .slice none 0 0, I 0] 82) := ⟨_, rfl⟩
  obtain ⟨hE, b7, bx, hz⟩ := two_res (x := ⟨2, dst, a, b, sa, sb, im⟩) hW1
  have HE := Lib.hid hE; have B7 := Lib.hid b7; have BX := Lib.hid bx
  obtain ⟨ba, oa, ea, hba, ca⟩ := rc (by omega)
  have xa := (hE.old.1 ba (oa + a) hba).trans (ca a hA)
  have wa := hc a hA
  have HV : Hid (ofI (reI ⟨2, dst, a, b, sa, sb, im⟩ c IN) 0 = ofI (shI (c a) sa) 0) := rfl
  generalize c a = va at *
  subst ea
  rw [HV.out]; clear HV
  have HSA : Hid (∀ w', Calls Try.prog 50 #[I va, I sa] w' (DyRes (ofI (shI va sa) 0) w')) := fun w' => rsh_any va sa (by have := wdB_iff.1 wa; omega) (by have := wdB_iff.1 wa; omega) h1 h2
  have hp := shI_wd wa h2
  have ka := ofZ_ok (shI va sa)
  have la := len_big (n := shI va sa) (by omega) (by omega)
  generalize hd1 : ofI (shI va sa) 0 = d1 at *
  clear hd1
  clear hp
  have KA := Lib.hid ka; have LA := Lib.hid la
  clear ka la
  have ha' : (a : Int) < (nc : Int) := by omega
  have XA := Lib.hid xa; have HBA := Lib.hid (show ba < W1.heap.size by omega)
  have HS : Hid (∀ w', Ext W1 w' → w'.cell? ⟨w.heap.size, 2, none⟩ = some (I a) ∧ w'.cell? ⟨w.heap.size, 4, none⟩ = some (I sa) ∧ w'.cell? ⟨ba, oa + a, none⟩ = some (I va)) := fun w' x => ⟨(B7.out.ext x).c2, (B7.out.ext x).c4, (x.old.1 _ _ HBA.out).trans XA.out⟩
  have c0 := b7.c0
  have HZ := Lib.hid hz
  clear hE b7 bx hz
  go_enter Try.func38, Try.ntmps38
  go_upto_region 1 with fail
  rw [← hW1]; clear hW1
  go_upto_region 10 with fail
  go_cut [7] (fun s7 wx => ∃ g A y, s7 = .pointer (some ⟨g, 0, none⟩) ∧ Hid (BoS W1 wx g d1 A y))
  case first =>
    obtain ⟨m0, m1, m2⟩ := HS.out W1 (Ext.refl _)
    go_region_held3 (fun w' => w'.cell? ⟨w.heap.size, 2, none⟩ = some (I a) ∧ w'.cell? ⟨w.heap.size, 4, none⟩ = some (I sa) ∧ w'.cell? ⟨ba, oa + a, none⟩ = some (I va)) (first | with_reducible assumption | exact HS.out _ (by (with_reducible (repeat (first | exact Ext.refl _ | assumption | (refine Ext.toSet ?_ (by omega)) | refine Ext.toAlloc ?_ | refine Ext.toDrew ?_ | refine Ext.toDrewN ?_ | refine Ext.trans ?_ (by assumption)))); (first | done | fail "no")))
      ((go_at_call 50; (with_reducible refine (HSA.out _).mono ?_); rintro e1 w3 ⟨A1, y1, rfl, hon1, hx1⟩; have O1 := Lib.hid hon1; clear hon1; have g1 := Ext.size hx1; (try simp only [World.size_drew, World.size_alloc] at g1); (first | ((with_reducible have u1 := one_newq hx1); have l1 := u1.lt; have m1 := Nat.ne_of_lt l1; have n1 := Nat.ne_of_gt l1; obtain ⟨⟨v10, v11, v12⟩, v13⟩ := u1) | skip)))
    all_goals
      go_wp2_with fail
      go_meet
      have o1 := O1.out
      have pb := on_blk o1
      have ps := o1.ok
      have pr := o1.rd
      simp only [World.size_drew, World.size_alloc] at pb
      refine ⟨_, A1, y1, rfl, ?_⟩
      refine ⟨(by (with_reducible (repeat (first | exact Ext.refl _ | assumption | (refine Ext.toSet ?_ (by omega)) | refine Ext.toAlloc ?_ | refine Ext.toDrew ?_ | refine Ext.toDrewN ?_ | refine Ext.trans ?_ (by assumption)))); (first | done | fail "no")), ⟨by go_simp, by go_simp, by go_simp⟩, by first | omega | (simp; done) | (simp; omega), ?_, ps, fun hn a ha => by have := (pb hn a ha).1; omega⟩
      with_reducible (repeat (refine rd_set7 ?_ (fun hn a ha => by have := pb hn a ha; omega) _ _))
      exact pr.ext (by (with_reducible (repeat (first | exact Ext.refl _ | assumption | (refine Ext.toSet ?_ (by omega)) | refine Ext.toAlloc ?_ | refine Ext.toDrew ?_ | refine Ext.toDrewN ?_ | refine Ext.trans ?_ (by assumption)))); (first | done | fail "no"))
  clear c0
  obtain ⟨g, A, y, rfl, hc'⟩ := hcut
  obtain ⟨hx, hst, hg, hrd, hsl, hbl⟩ := hc'.out
  obtain ⟨W2, rfl⟩ : ∃ W2, W2 = wc := ⟨_, rfl⟩
  have HX := Lib.hid hx
  have c0 := (B7.out.ext hx).c0
  obtain ⟨⟨g0, g1, g2⟩, gz⟩ := BX.out.ext hx
  obtain ⟨q0, q1, q2⟩ := hst
  have sz := hx.size
  have DY := Lib.hid (Dy.valid hrd hsl KA.out LA.out)
  go_wp2_with fail
  have hz := HZ.out
  refine bodyPost_ret (v := dv d1.neg A (len d1.m) y d1.den) (by simp [results, Try.results38, go_sem, g0, g1, g2]) rfl ?_
  refine ⟨A, y, rfl, ?_, hsl, ext_set3 (HE.out.trans hx) (by omega) _ _ _⟩
  exact rd_set7 (rd_set7 (rd_set7 hrd (fun hn a ha => by have := hbl hn a ha; omega) _ _) (fun hn a ha => by have := hbl hn a ha; omega) _ _) (fun hn a ha => by have := hbl hn a ha; omega) _ _
set_option maxRecDepth 100000 in
set_option maxHeartbeats 1000000 in
theorem rres_5 {w : World} {dst sa sb im : Int} {a : Nat} {b : Int} {Ac Ai : Option Addr} {nc cc np ci : Nat} {c IN : Nat → Int} (rc : Ri w Ac nc c) (hA : a < nc) (hc : ∀ i, i < nc → wdB (c i) = true) (h1 : -62 ≤ sa) (h2 : sa ≤ 30) :
    Calls Try.prog 38 #[insV ⟨5, dst, a, b, sa, sb, im⟩, .slice Ac nc cc, .slice Ai np ci] w (DyRd (ofI (reI ⟨5, dst, a, b, sa, sb, im⟩ c IN) 0) w) := by
  obtain ⟨W1, hW1⟩ : ∃ W1, W1 = (w.alloc (.cells #[I 5, I dst, I a, I b, I sa, I sb, I im] 52)).alloc (.cells #[.bool false, .slice none 0 0, I 0] 82) := ⟨_, rfl⟩
  obtain ⟨hE, b7, bx, hz⟩ := two_res (x := ⟨5, dst, a, b, sa, sb, im⟩) hW1
  have HE := Lib.hid hE; have B7 := Lib.hid b7; have BX := Lib.hid bx
  obtain ⟨ba, oa, ea, hba, ca⟩ := rc (by omega)
  have xa := (hE.old.1 ba (oa + a) hba).trans (ca a hA)
  have wa := hc a hA
  have HV : Hid (ofI (reI ⟨5, dst, a, b, sa, sb, im⟩ c IN) 0 = ofI (-shI (c a) sa) 0) := rfl
  generalize c a = va at *
  subst ea
  rw [HV.out]; clear HV
  have HSA : Hid (∀ w', Calls Try.prog 50 #[I va, I sa] w' (DyRes (ofI (shI va sa) 0) w')) := fun w' => rsh_any va sa (by have := wdB_iff.1 wa; omega) (by have := wdB_iff.1 wa; omega) h1 h2
  have hp := shI_wd wa h2
  have ka := ofZ_ok (shI va sa)
  have la := len_big (n := shI va sa) (by omega) (by omega)
  have HN := Lib.hid (neg_ofZ (shI va sa))
  generalize ofI (-shI va sa) 0 = d at *
  generalize hd1 : ofI (shI va sa) 0 = d1 at *
  clear hd1
  clear hp
  have KA := Lib.hid ka; have LA := Lib.hid la
  clear ka la
  have ha' : (a : Int) < (nc : Int) := by omega
  have XA := Lib.hid xa; have HBA := Lib.hid (show ba < W1.heap.size by omega)
  have HS : Hid (∀ w', Ext W1 w' → w'.cell? ⟨w.heap.size, 2, none⟩ = some (I a) ∧ w'.cell? ⟨w.heap.size, 4, none⟩ = some (I sa) ∧ w'.cell? ⟨ba, oa + a, none⟩ = some (I va)) := fun w' x => ⟨(B7.out.ext x).c2, (B7.out.ext x).c4, (x.old.1 _ _ HBA.out).trans XA.out⟩
  have c0 := b7.c0
  have HZ := Lib.hid hz
  clear hE b7 bx hz
  go_enter Try.func38, Try.ntmps38
  go_upto_region 1 with fail
  rw [← hW1]; clear hW1
  go_upto_region 10 with fail
  go_cut [7] (fun s7 wx => ∃ g A y, s7 = .pointer (some ⟨g, 0, none⟩) ∧ Hid (BoS W1 wx g d1 A y))
  case first =>
    obtain ⟨m0, m1, m2⟩ := HS.out W1 (Ext.refl _)
    go_region_held3 (fun w' => w'.cell? ⟨w.heap.size, 2, none⟩ = some (I a) ∧ w'.cell? ⟨w.heap.size, 4, none⟩ = some (I sa) ∧ w'.cell? ⟨ba, oa + a, none⟩ = some (I va)) (first | with_reducible assumption | exact HS.out _ (by (with_reducible (repeat (first | exact Ext.refl _ | assumption | (refine Ext.toSet ?_ (by omega)) | refine Ext.toAlloc ?_ | refine Ext.toDrew ?_ | refine Ext.toDrewN ?_ | refine Ext.trans ?_ (by assumption)))); (first | done | fail "no")))
      ((go_at_call 50; (with_reducible refine (HSA.out _).mono ?_); rintro e1 w3 ⟨A1, y1, rfl, hon1, hx1⟩; have O1 := Lib.hid hon1; clear hon1; have g1 := Ext.size hx1; (try simp only [World.size_drew, World.size_alloc] at g1); (first | ((with_reducible have u1 := one_newq hx1); have l1 := u1.lt; have m1 := Nat.ne_of_lt l1; have n1 := Nat.ne_of_gt l1; obtain ⟨⟨v10, v11, v12⟩, v13⟩ := u1) | skip)))
    all_goals
      go_wp2_with fail
      go_meet
      have o1 := O1.out
      have pb := on_blk o1
      have ps := o1.ok
      have pr := o1.rd
      simp only [World.size_drew, World.size_alloc] at pb
      refine ⟨_, A1, y1, rfl, ?_⟩
      refine ⟨(by (with_reducible (repeat (first | exact Ext.refl _ | assumption | (refine Ext.toSet ?_ (by omega)) | refine Ext.toAlloc ?_ | refine Ext.toDrew ?_ | refine Ext.toDrewN ?_ | refine Ext.trans ?_ (by assumption)))); (first | done | fail "no")), ⟨by go_simp, by go_simp, by go_simp⟩, by first | omega | (simp; done) | (simp; omega), ?_, ps, fun hn a ha => by have := (pb hn a ha).1; omega⟩
      with_reducible (repeat (refine rd_set7 ?_ (fun hn a ha => by have := pb hn a ha; omega) _ _))
      exact pr.ext (by (with_reducible (repeat (first | exact Ext.refl _ | assumption | (refine Ext.toSet ?_ (by omega)) | refine Ext.toAlloc ?_ | refine Ext.toDrew ?_ | refine Ext.toDrewN ?_ | refine Ext.trans ?_ (by assumption)))); (first | done | fail "no"))
  clear c0
  obtain ⟨g, A, y, rfl, hc'⟩ := hcut
  obtain ⟨hx, hst, hg, hrd, hsl, hbl⟩ := hc'.out
  obtain ⟨W2, rfl⟩ : ∃ W2, W2 = wc := ⟨_, rfl⟩
  have HX := Lib.hid hx
  have c0 := (B7.out.ext hx).c0
  obtain ⟨⟨g0, g1, g2⟩, gz⟩ := BX.out.ext hx
  obtain ⟨q0, q1, q2⟩ := hst
  have sz := hx.size
  have DY := Lib.hid (Dy.valid hrd hsl KA.out LA.out)
  go_wp2_with (go_at_call 51; (with_reducible refine (rneg_any DY.out).mono ?_); rw [HN.out]; rintro e1 w4 ⟨A4, y4, rfl, hon4, hx4⟩; have O4 := Lib.hid hon4; clear hon4 g0 g1 g2 gz; obtain ⟨⟨g0, g1, g2⟩, gz⟩ := BX.out.ext (hx.trans hx4))
  have hz := HZ.out
  refine bodyPost_ret (v := dv d.neg A4 (len d.m) y4 d.den) (by simp [results, Try.results38, go_sem, g0, g1, g2]) rfl ?_
  exact DyRd.of (W := W2) (w2 := w4) (g := w.heap.size + 1) rfl O4.out (HE.out.trans (hx.trans hx4)) (Ext.refl _) (by omega) (by omega)
set_option maxRecDepth 100000 in
set_option maxHeartbeats 1000000 in
theorem rres_10 {w : World} {dst sa sb im : Int} {a : Nat} {b : Int} {Ac Ai : Option Addr} {nc cc np ci : Nat} {c IN : Nat → Int} (rc : Ri w Ac nc c) (hA : a < nc) (hc : ∀ i, i < nc → wdB (c i) = true) (h1 : -62 ≤ sa) (h2 : sa ≤ 30) :
    Calls Try.prog 38 #[insV ⟨10, dst, a, b, sa, sb, im⟩, .slice Ac nc cc, .slice Ai np ci] w (DyRd (ofI (reI ⟨10, dst, a, b, sa, sb, im⟩ c IN) 0) w) := by
  obtain ⟨W1, hW1⟩ : ∃ W1, W1 = (w.alloc (.cells #[I 10, I dst, I a, I b, I sa, I sb, I im] 52)).alloc (.cells #[.bool false, .slice none 0 0, I 0] 82) := ⟨_, rfl⟩
  obtain ⟨hE, b7, bx, hz⟩ := two_res (x := ⟨10, dst, a, b, sa, sb, im⟩) hW1
  have HE := Lib.hid hE; have B7 := Lib.hid b7; have BX := Lib.hid bx
  obtain ⟨ba, oa, ea, hba, ca⟩ := rc (by omega)
  have xa := (hE.old.1 ba (oa + a) hba).trans (ca a hA)
  have wa := hc a hA
  have HV : Hid (ofI (reI ⟨10, dst, a, b, sa, sb, im⟩ c IN) 0 = ofI (max (shI (c a) sa) (-shI (c a) sa)) 0) := rfl
  generalize c a = va at *
  subst ea
  rw [HV.out]; clear HV
  have HSA : Hid (∀ w', Calls Try.prog 50 #[I va, I sa] w' (DyRes (ofI (shI va sa) 0) w')) := fun w' => rsh_any va sa (by have := wdB_iff.1 wa; omega) (by have := wdB_iff.1 wa; omega) h1 h2
  have hp := shI_wd wa h2
  have ka := ofZ_ok (shI va sa)
  have la := len_big (n := shI va sa) (by omega) (by omega)
  have HN := Lib.hid (abs_ofZ (shI va sa))
  generalize ofI (max (shI va sa) (-shI va sa)) 0 = d at *
  generalize hd1 : ofI (shI va sa) 0 = d1 at *
  clear hd1
  clear hp
  have KA := Lib.hid ka; have LA := Lib.hid la
  clear ka la
  have ha' : (a : Int) < (nc : Int) := by omega
  have XA := Lib.hid xa; have HBA := Lib.hid (show ba < W1.heap.size by omega)
  have HS : Hid (∀ w', Ext W1 w' → w'.cell? ⟨w.heap.size, 2, none⟩ = some (I a) ∧ w'.cell? ⟨w.heap.size, 4, none⟩ = some (I sa) ∧ w'.cell? ⟨ba, oa + a, none⟩ = some (I va)) := fun w' x => ⟨(B7.out.ext x).c2, (B7.out.ext x).c4, (x.old.1 _ _ HBA.out).trans XA.out⟩
  have c0 := b7.c0
  have HZ := Lib.hid hz
  clear hE b7 bx hz
  go_enter Try.func38, Try.ntmps38
  go_upto_region 1 with fail
  rw [← hW1]; clear hW1
  go_upto_region 10 with fail
  go_cut [7] (fun s7 wx => ∃ g A y, s7 = .pointer (some ⟨g, 0, none⟩) ∧ Hid (BoS W1 wx g d1 A y))
  case first =>
    obtain ⟨m0, m1, m2⟩ := HS.out W1 (Ext.refl _)
    go_region_held3 (fun w' => w'.cell? ⟨w.heap.size, 2, none⟩ = some (I a) ∧ w'.cell? ⟨w.heap.size, 4, none⟩ = some (I sa) ∧ w'.cell? ⟨ba, oa + a, none⟩ = some (I va)) (first | with_reducible assumption | exact HS.out _ (by (with_reducible (repeat (first | exact Ext.refl _ | assumption | (refine Ext.toSet ?_ (by omega)) | refine Ext.toAlloc ?_ | refine Ext.toDrew ?_ | refine Ext.toDrewN ?_ | refine Ext.trans ?_ (by assumption)))); (first | done | fail "no")))
      ((go_at_call 50; (with_reducible refine (HSA.out _).mono ?_); rintro e1 w3 ⟨A1, y1, rfl, hon1, hx1⟩; have O1 := Lib.hid hon1; clear hon1; have g1 := Ext.size hx1; (try simp only [World.size_drew, World.size_alloc] at g1); (first | ((with_reducible have u1 := one_newq hx1); have l1 := u1.lt; have m1 := Nat.ne_of_lt l1; have n1 := Nat.ne_of_gt l1; obtain ⟨⟨v10, v11, v12⟩, v13⟩ := u1) | skip)))
    all_goals
      go_wp2_with fail
      go_meet
      have o1 := O1.out
      have pb := on_blk o1
      have ps := o1.ok
      have pr := o1.rd
      simp only [World.size_drew, World.size_alloc] at pb
      refine ⟨_, A1, y1, rfl, ?_⟩
      refine ⟨(by (with_reducible (repeat (first | exact Ext.refl _ | assumption | (refine Ext.toSet ?_ (by omega)) | refine Ext.toAlloc ?_ | refine Ext.toDrew ?_ | refine Ext.toDrewN ?_ | refine Ext.trans ?_ (by assumption)))); (first | done | fail "no")), ⟨by go_simp, by go_simp, by go_simp⟩, by first | omega | (simp; done) | (simp; omega), ?_, ps, fun hn a ha => by have := (pb hn a ha).1; omega⟩
      with_reducible (repeat (refine rd_set7 ?_ (fun hn a ha => by have := pb hn a ha; omega) _ _))
      exact pr.ext (by (with_reducible (repeat (first | exact Ext.refl _ | assumption | (refine Ext.toSet ?_ (by omega)) | refine Ext.toAlloc ?_ | refine Ext.toDrew ?_ | refine Ext.toDrewN ?_ | refine Ext.trans ?_ (by assumption)))); (first | done | fail "no"))
  clear c0
  obtain ⟨g, A, y, rfl, hc'⟩ := hcut
  obtain ⟨hx, hst, hg, hrd, hsl, hbl⟩ := hc'.out
  obtain ⟨W2, rfl⟩ : ∃ W2, W2 = wc := ⟨_, rfl⟩
  have HX := Lib.hid hx
  have c0 := (B7.out.ext hx).c0
  obtain ⟨⟨g0, g1, g2⟩, gz⟩ := BX.out.ext hx
  obtain ⟨q0, q1, q2⟩ := hst
  have sz := hx.size
  have DY := Lib.hid (Dy.valid hrd hsl KA.out LA.out)
  go_wp2_with (go_at_call 52; (with_reducible refine (rabs_any DY.out).mono ?_); rw [HN.out]; rintro e1 w4 ⟨A4, y4, rfl, hon4, hx4⟩; have O4 := Lib.hid hon4; clear hon4 g0 g1 g2 gz; obtain ⟨⟨g0, g1, g2⟩, gz⟩ := BX.out.ext (hx.trans hx4))
  have hz := HZ.out
  refine bodyPost_ret (v := dv d.neg A4 (len d.m) y4 d.den) (by simp [results, Try.results38, go_sem, g0, g1, g2]) rfl ?_
  exact DyRd.of (W := W2) (w2 := w4) (g := w.heap.size + 1) rfl O4.out (HE.out.trans (hx.trans hx4)) (Ext.refl _) (by omega) (by omega)
set_option maxRecDepth 100000 in
set_option maxHeartbeats 1000000 in
theorem rres_3 {w : World} {dst sa sb im : Int} {a : Nat} {b : Nat} {Ac Ai : Option Addr} {nc cc np ci : Nat} {c IN : Nat → Int} (rc : Ri w Ac nc c) (hA : a < nc) (hB : b < nc) (hc : ∀ i, i < nc → wdB (c i) = true) (h1 : -62 ≤ sa) (h2 : sa ≤ 30) (h3 : -62 ≤ sb) (h4 : sb ≤ 30) :
    Calls Try.prog 38 #[insV ⟨3, dst, a, b, sa, sb, im⟩, .slice Ac nc cc, .slice Ai np ci] w (DyRd (ofI (reI ⟨3, dst, a, b, sa, sb, im⟩ c IN) 0) w) := by
  obtain ⟨W1, hW1⟩ : ∃ W1, W1 = (w.alloc (.cells #[I 3, I dst, I a, I b, I sa, I sb, I im] 52)).alloc (.cells #[.bool false, .slice none 0 0, I 0] 82) := ⟨_, rfl⟩
  obtain ⟨hE, b7, bx, hz⟩ := two_res (x := ⟨3, dst, a, b, sa, sb, im⟩) hW1
  have HE := Lib.hid hE; have B7 := Lib.hid b7; have BX := Lib.hid bx
  obtain ⟨ba, oa, ea, hba, ca⟩ := rc (by omega)
  have xa := (hE.old.1 ba (oa + a) hba).trans (ca a hA)
  have wa := hc a hA
  have xb := (hE.old.1 ba (oa + b) hba).trans (ca b hB)
  have wb := hc b hB
  have HV : Hid (ofI (reI ⟨3, dst, a, b, sa, sb, im⟩ c IN) 0 = ofI (shI (c a) sa + shI (c b) sb) 0) := rfl
  generalize c b = vb at *
  generalize hva : c a = va at *
  clear hva
  subst ea
  rw [HV.out]; clear HV
  have HSA : Hid (∀ w', Calls Try.prog 50 #[I va, I sa] w' (DyRes (ofI (shI va sa) 0) w')) := fun w' => rsh_any va sa (by have := wdB_iff.1 wa; omega) (by have := wdB_iff.1 wa; omega) h1 h2
  have hp := shI_wd wa h2
  have ka := ofZ_ok (shI va sa)
  have la := len_big (n := shI va sa) (by omega) (by omega)
  have HSB : Hid (∀ w', Calls Try.prog 50 #[I vb, I sb] w' (DyRes (ofI (shI vb sb) 0) w')) := fun w' => rsh_any vb sb (by have := wdB_iff.1 wb; omega) (by have := wdB_iff.1 wb; omega) h3 h4
  have hq := shI_wd wb h4
  have kb := ofZ_ok (shI vb sb)
  have lb := len_big (n := shI vb sb) (by omega) (by omega)
  have HN := Lib.hid (add_ofZ (shI va sa) (shI vb sb))
  generalize ofI (shI va sa + shI vb sb) 0 = d at *
  generalize hd1 : ofI (shI va sa) 0 = d1 at *
  clear hd1
  generalize hd2 : ofI (shI vb sb) 0 = d2 at *
  clear hd2
  clear hp hq
  have KA := Lib.hid ka; have LA := Lib.hid la
  clear ka la
  have KB := Lib.hid kb; have LB := Lib.hid lb
  clear kb lb
  have ha' : (a : Int) < (nc : Int) := by omega
  have hb' : (b : Int) < (nc : Int) := by omega
  have XA := Lib.hid xa; have HBA := Lib.hid (show ba < W1.heap.size by omega)
  have XB := Lib.hid xb
  have HS : Hid (∀ w', Ext W1 w' → w'.cell? ⟨w.heap.size, 2, none⟩ = some (I a) ∧ w'.cell? ⟨w.heap.size, 4, none⟩ = some (I sa) ∧ w'.cell? ⟨ba, oa + a, none⟩ = some (I va)) := fun w' x => ⟨(B7.out.ext x).c2, (B7.out.ext x).c4, (x.old.1 _ _ HBA.out).trans XA.out⟩
  have HS2 : Hid (∀ w', Ext W1 w' → w'.cell? ⟨w.heap.size, 3, none⟩ = some (I b) ∧ w'.cell? ⟨w.heap.size, 5, none⟩ = some (I sb) ∧ w'.cell? ⟨ba, oa + b, none⟩ = some (I vb)) := fun w' x => ⟨(B7.out.ext x).c3, (B7.out.ext x).c5, (x.old.1 _ _ HBA.out).trans XB.out⟩
  have c0 := b7.c0
  have HZ := Lib.hid hz
  clear hE b7 bx hz
  go_enter Try.func38, Try.ntmps38
  go_upto_region 1 with fail
  rw [← hW1]; clear hW1
  go_upto_region 10 with fail
  go_cut [7] (fun s7 wx => ∃ g A y, s7 = .pointer (some ⟨g, 0, none⟩) ∧ Hid (BoS W1 wx g d1 A y))
  case first =>
    obtain ⟨m0, m1, m2⟩ := HS.out W1 (Ext.refl _)
    go_region_held3 (fun w' => w'.cell? ⟨w.heap.size, 2, none⟩ = some (I a) ∧ w'.cell? ⟨w.heap.size, 4, none⟩ = some (I sa) ∧ w'.cell? ⟨ba, oa + a, none⟩ = some (I va)) (first | with_reducible assumption | exact HS.out _ (by (with_reducible (repeat (first | exact Ext.refl _ | assumption | (refine Ext.toSet ?_ (by omega)) | refine Ext.toAlloc ?_ | refine Ext.toDrew ?_ | refine Ext.toDrewN ?_ | refine Ext.trans ?_ (by assumption)))); (first | done | fail "no")))
      ((go_at_call 50; (with_reducible refine (HSA.out _).mono ?_); rintro e1 w3 ⟨A1, y1, rfl, hon1, hx1⟩; have O1 := Lib.hid hon1; clear hon1; have g1 := Ext.size hx1; (try simp only [World.size_drew, World.size_alloc] at g1); (first | ((with_reducible have u1 := one_newq hx1); have l1 := u1.lt; have m1 := Nat.ne_of_lt l1; have n1 := Nat.ne_of_gt l1; obtain ⟨⟨v10, v11, v12⟩, v13⟩ := u1) | skip)))
    all_goals
      go_wp2_with fail
      go_meet
      have o1 := O1.out
      have pb := on_blk o1
      have ps := o1.ok
      have pr := o1.rd
      simp only [World.size_drew, World.size_alloc] at pb
      refine ⟨_, A1, y1, rfl, ?_⟩
      refine ⟨(by (with_reducible (repeat (first | exact Ext.refl _ | assumption | (refine Ext.toSet ?_ (by omega)) | refine Ext.toAlloc ?_ | refine Ext.toDrew ?_ | refine Ext.toDrewN ?_ | refine Ext.trans ?_ (by assumption)))); (first | done | fail "no")), ⟨by go_simp, by go_simp, by go_simp⟩, by first | omega | (simp; done) | (simp; omega), ?_, ps, fun hn a ha => by have := (pb hn a ha).1; omega⟩
      with_reducible (repeat (refine rd_set7 ?_ (fun hn a ha => by have := pb hn a ha; omega) _ _))
      exact pr.ext (by (with_reducible (repeat (first | exact Ext.refl _ | assumption | (refine Ext.toSet ?_ (by omega)) | refine Ext.toAlloc ?_ | refine Ext.toDrew ?_ | refine Ext.toDrewN ?_ | refine Ext.trans ?_ (by assumption)))); (first | done | fail "no"))
  clear c0
  obtain ⟨g, A, y, rfl, hc'⟩ := hcut
  obtain ⟨hx, hst, hg, hrd, hsl, hbl⟩ := hc'.out
  obtain ⟨W2, rfl⟩ : ∃ W2, W2 = wc := ⟨_, rfl⟩
  have HX := Lib.hid hx
  have c0 := (B7.out.ext hx).c0
  have HT : Hid (∀ w', Ext W2 w' → w'.cell? ⟨w.heap.size, 3, none⟩ = some (I b) ∧ w'.cell? ⟨w.heap.size, 5, none⟩ = some (I sb) ∧ w'.cell? ⟨ba, oa + b, none⟩ = some (I vb)) := fun w' x => HS2.out w' (HX.out.trans x)
  clear HS
  go_upto_region 18 with fail
  go_cut [8] (fun s7 wx => ∃ g A y, s7 = .pointer (some ⟨g, 0, none⟩) ∧ Hid (BoS W2 wx g d2 A y))
  case first =>
    obtain ⟨m0, m1, m2⟩ := HT.out W2 (Ext.refl _)
    go_region_held3 (fun w' => w'.cell? ⟨w.heap.size, 3, none⟩ = some (I b) ∧ w'.cell? ⟨w.heap.size, 5, none⟩ = some (I sb) ∧ w'.cell? ⟨ba, oa + b, none⟩ = some (I vb)) (first | with_reducible assumption | exact HT.out _ (by (with_reducible (repeat (first | exact Ext.refl _ | assumption | (refine Ext.toSet ?_ (by omega)) | refine Ext.toAlloc ?_ | refine Ext.toDrew ?_ | refine Ext.toDrewN ?_ | refine Ext.trans ?_ (by assumption)))); (first | done | fail "no")))
      ((go_at_call 50; (with_reducible refine (HSB.out _).mono ?_); rintro e1 w3 ⟨A1, y1, rfl, hon1, hx1⟩; have O1 := Lib.hid hon1; clear hon1; have g1 := Ext.size hx1; (try simp only [World.size_drew, World.size_alloc] at g1); (first | ((with_reducible have u1 := one_newq hx1); have l1 := u1.lt; have m1 := Nat.ne_of_lt l1; have n1 := Nat.ne_of_gt l1; obtain ⟨⟨v10, v11, v12⟩, v13⟩ := u1) | skip)))
    all_goals
      go_wp2_with fail
      go_meet
      have o1 := O1.out
      have pb := on_blk o1
      have ps := o1.ok
      have pr := o1.rd
      simp only [World.size_drew, World.size_alloc] at pb
      refine ⟨_, A1, y1, rfl, ?_⟩
      refine ⟨(by (with_reducible (repeat (first | exact Ext.refl _ | assumption | (refine Ext.toSet ?_ (by omega)) | refine Ext.toAlloc ?_ | refine Ext.toDrew ?_ | refine Ext.toDrewN ?_ | refine Ext.trans ?_ (by assumption)))); (first | done | fail "no")), ⟨by go_simp, by go_simp, by go_simp⟩, by first | omega | (simp; done) | (simp; omega), ?_, ps, fun hn a ha => by have := (pb hn a ha).1; omega⟩
      with_reducible (repeat (refine rd_set7 ?_ (fun hn a ha => by have := pb hn a ha; omega) _ _))
      exact pr.ext (by (with_reducible (repeat (first | exact Ext.refl _ | assumption | (refine Ext.toSet ?_ (by omega)) | refine Ext.toAlloc ?_ | refine Ext.toDrew ?_ | refine Ext.toDrewN ?_ | refine Ext.trans ?_ (by assumption)))); (first | done | fail "no"))
  clear c0
  obtain ⟨g', B, z, rfl, hc2⟩ := hcut
  obtain ⟨hx2, hst2, hg2, hrd2, hsl2, hbl2⟩ := hc2.out
  obtain ⟨W3, rfl⟩ : ∃ W3, W3 = wc := ⟨_, rfl⟩
  have c0 := (B7.out.ext (hx.trans hx2)).c0
  obtain ⟨⟨g0, g1, g2⟩, gz⟩ := BX.out.ext (hx.trans hx2)
  obtain ⟨r0, r1, r2⟩ := hst2
  obtain ⟨q0, q1, q2⟩ := hst.ext7 hg hx2
  have sz := hx.size
  have sz2 := hx2.size
  have DA := Lib.hid (Dy.valid (hrd.ext hx2) hsl KA.out LA.out)
  have DB := Lib.hid (Dy.valid hrd2 hsl2 KB.out LB.out)
  go_wp2_with (go_at_call 53; (with_reducible refine (radd_any DA.out DB.out).mono ?_); rw [HN.out]; rintro e1 w4 ⟨A4, y4, rfl, hon4, hx4⟩; have O4 := Lib.hid hon4; clear hon4 g0 g1 g2 gz; obtain ⟨⟨g0, g1, g2⟩, gz⟩ := BX.out.ext ((hx.trans hx2).trans hx4))
  have hz := HZ.out
  refine bodyPost_ret (v := dv d.neg A4 (len d.m) y4 d.den) (by simp [results, Try.results38, go_sem, g0, g1, g2]) rfl ?_
  exact DyRd.of (W := W3) (w2 := w4) (g := w.heap.size + 1) rfl O4.out (HE.out.trans ((hx.trans hx2).trans hx4)) (Ext.refl _) (by omega) (by omega)
set_option maxRecDepth 100000 in
set_option maxHeartbeats 1000000 in
theorem rres_4 {w : World} {dst sa sb im : Int} {a : Nat} {b : Nat} {Ac Ai : Option Addr} {nc cc np ci : Nat} {c IN : Nat → Int} (rc : Ri w Ac nc c) (hA : a < nc) (hB : b < nc) (hc : ∀ i, i < nc → wdB (c i) = true) (h1 : -62 ≤ sa) (h2 : sa ≤ 30) (h3 : -62 ≤ sb) (h4 : sb ≤ 30) :
    Calls Try.prog 38 #[insV ⟨4, dst, a, b, sa, sb, im⟩, .slice Ac nc cc, .slice Ai np ci] w (DyRd (ofI (reI ⟨4, dst, a, b, sa, sb, im⟩ c IN) 0) w) := by
  obtain ⟨W1, hW1⟩ : ∃ W1, W1 = (w.alloc (.cells #[I 4, I dst, I a, I b, I sa, I sb, I im] 52)).alloc (.cells #[.bool false, .slice none 0 0, I 0] 82) := ⟨_, rfl⟩
  obtain ⟨hE, b7, bx, hz⟩ := two_res (x := ⟨4, dst, a, b, sa, sb, im⟩) hW1
  have HE := Lib.hid hE; have B7 := Lib.hid b7; have BX := Lib.hid bx
  obtain ⟨ba, oa, ea, hba, ca⟩ := rc (by omega)
  have xa := (hE.old.1 ba (oa + a) hba).trans (ca a hA)
  have wa := hc a hA
  have xb := (hE.old.1 ba (oa + b) hba).trans (ca b hB)
  have wb := hc b hB
  have HV : Hid (ofI (reI ⟨4, dst, a, b, sa, sb, im⟩ c IN) 0 = ofI (shI (c a) sa - shI (c b) sb) 0) := rfl
  generalize c b = vb at *
  generalize hva : c a = va at *
  clear hva
  subst ea
  rw [HV.out]; clear HV
  have HSA : Hid (∀ w', Calls Try.prog 50 #[I va, I sa] w' (DyRes (ofI (shI va sa) 0) w')) := fun w' => rsh_any va sa (by have := wdB_iff.1 wa; omega) (by have := wdB_iff.1 wa; omega) h1 h2
  have hp := shI_wd wa h2
  have ka := ofZ_ok (shI va sa)
  have la := len_big (n := shI va sa) (by omega) (by omega)
  have HSB : Hid (∀ w', Calls Try.prog 50 #[I vb, I sb] w' (DyRes (ofI (shI vb sb) 0) w')) := fun w' => rsh_any vb sb (by have := wdB_iff.1 wb; omega) (by have := wdB_iff.1 wb; omega) h3 h4
  have hq := shI_wd wb h4
  have kb := ofZ_ok (shI vb sb)
  have lb := len_big (n := shI vb sb) (by omega) (by omega)
  have HN := Lib.hid (sub_ofZ (shI va sa) (shI vb sb))
  generalize ofI (shI va sa - shI vb sb) 0 = d at *
  generalize hd1 : ofI (shI va sa) 0 = d1 at *
  clear hd1
  generalize hd2 : ofI (shI vb sb) 0 = d2 at *
  clear hd2
  clear hp hq
  have KA := Lib.hid ka; have LA := Lib.hid la
  clear ka la
  have KB := Lib.hid kb; have LB := Lib.hid lb
  clear kb lb
  have ha' : (a : Int) < (nc : Int) := by omega
  have hb' : (b : Int) < (nc : Int) := by omega
  have XA := Lib.hid xa; have HBA := Lib.hid (show ba < W1.heap.size by omega)
  have XB := Lib.hid xb
  have HS : Hid (∀ w', Ext W1 w' → w'.cell? ⟨w.heap.size, 2, none⟩ = some (I a) ∧ w'.cell? ⟨w.heap.size, 4, none⟩ = some (I sa) ∧ w'.cell? ⟨ba, oa + a, none⟩ = some (I va)) := fun w' x => ⟨(B7.out.ext x).c2, (B7.out.ext x).c4, (x.old.1 _ _ HBA.out).trans XA.out⟩
  have HS2 : Hid (∀ w', Ext W1 w' → w'.cell? ⟨w.heap.size, 3, none⟩ = some (I b) ∧ w'.cell? ⟨w.heap.size, 5, none⟩ = some (I sb) ∧ w'.cell? ⟨ba, oa + b, none⟩ = some (I vb)) := fun w' x => ⟨(B7.out.ext x).c3, (B7.out.ext x).c5, (x.old.1 _ _ HBA.out).trans XB.out⟩
  have c0 := b7.c0
  have HZ := Lib.hid hz
  clear hE b7 bx hz
  go_enter Try.func38, Try.ntmps38
  go_upto_region 1 with fail
  rw [← hW1]; clear hW1
  go_upto_region 10 with fail
  go_cut [7] (fun s7 wx => ∃ g A y, s7 = .pointer (some ⟨g, 0, none⟩) ∧ Hid (BoS W1 wx g d1 A y))
  case first =>
    obtain ⟨m0, m1, m2⟩ := HS.out W1 (Ext.refl _)
    go_region_held3 (fun w' => w'.cell? ⟨w.heap.size, 2, none⟩ = some (I a) ∧ w'.cell? ⟨w.heap.size, 4, none⟩ = some (I sa) ∧ w'.cell? ⟨ba, oa + a, none⟩ = some (I va)) (first | with_reducible assumption | exact HS.out _ (by (with_reducible (repeat (first | exact Ext.refl _ | assumption | (refine Ext.toSet ?_ (by omega)) | refine Ext.toAlloc ?_ | refine Ext.toDrew ?_ | refine Ext.toDrewN ?_ | refine Ext.trans ?_ (by assumption)))); (first | done | fail "no")))
      ((go_at_call 50; (with_reducible refine (HSA.out _).mono ?_); rintro e1 w3 ⟨A1, y1, rfl, hon1, hx1⟩; have O1 := Lib.hid hon1; clear hon1; have g1 := Ext.size hx1; (try simp only [World.size_drew, World.size_alloc] at g1); (first | ((with_reducible have u1 := one_newq hx1); have l1 := u1.lt; have m1 := Nat.ne_of_lt l1; have n1 := Nat.ne_of_gt l1; obtain ⟨⟨v10, v11, v12⟩, v13⟩ := u1) | skip)))
    all_goals
      go_wp2_with fail
      go_meet
      have o1 := O1.out
      have pb := on_blk o1
      have ps := o1.ok
      have pr := o1.rd
      simp only [World.size_drew, World.size_alloc] at pb
      refine ⟨_, A1, y1, rfl, ?_⟩
      refine ⟨(by (with_reducible (repeat (first | exact Ext.refl _ | assumption | (refine Ext.toSet ?_ (by omega)) | refine Ext.toAlloc ?_ | refine Ext.toDrew ?_ | refine Ext.toDrewN ?_ | refine Ext.trans ?_ (by assumption)))); (first | done | fail "no")), ⟨by go_simp, by go_simp, by go_simp⟩, by first | omega | (simp; done) | (simp; omega), ?_, ps, fun hn a ha => by have := (pb hn a ha).1; omega⟩
      with_reducible (repeat (refine rd_set7 ?_ (fun hn a ha => by have := pb hn a ha; omega) _ _))
      exact pr.ext (by (with_reducible (repeat (first | exact Ext.refl _ | assumption | (refine Ext.toSet ?_ (by omega)) | refine Ext.toAlloc ?_ | refine Ext.toDrew ?_ | refine Ext.toDrewN ?_ | refine Ext.trans ?_ (by assumption)))); (first | done | fail "no"))
  clear c0
  obtain ⟨g, A, y, rfl, hc'⟩ := hcut
  obtain ⟨hx, hst, hg, hrd, hsl, hbl⟩ := hc'.out
  obtain ⟨W2, rfl⟩ : ∃ W2, W2 = wc := ⟨_, rfl⟩
  have HX := Lib.hid hx
  have c0 := (B7.out.ext hx).c0
  have HT : Hid (∀ w', Ext W2 w' → w'.cell? ⟨w.heap.size, 3, none⟩ = some (I b) ∧ w'.cell? ⟨w.heap.size, 5, none⟩ = some (I sb) ∧ w'.cell? ⟨ba, oa + b, none⟩ = some (I vb)) := fun w' x => HS2.out w' (HX.out.trans x)
  clear HS
  go_upto_region 18 with fail
  go_cut [8] (fun s7 wx => ∃ g A y, s7 = .pointer (some ⟨g, 0, none⟩) ∧ Hid (BoS W2 wx g d2 A y))
  case first =>
    obtain ⟨m0, m1, m2⟩ := HT.out W2 (Ext.refl _)
    go_region_held3 (fun w' => w'.cell? ⟨w.heap.size, 3, none⟩ = some (I b) ∧ w'.cell? ⟨w.heap.size, 5, none⟩ = some (I sb) ∧ w'.cell? ⟨ba, oa + b, none⟩ = some (I vb)) (first | with_reducible assumption | exact HT.out _ (by (with_reducible (repeat (first | exact Ext.refl _ | assumption | (refine Ext.toSet ?_ (by omega)) | refine Ext.toAlloc ?_ | refine Ext.toDrew ?_ | refine Ext.toDrewN ?_ | refine Ext.trans ?_ (by assumption)))); (first | done | fail "no")))
      ((go_at_call 50; (with_reducible refine (HSB.out _).mono ?_); rintro e1 w3 ⟨A1, y1, rfl, hon1, hx1⟩; have O1 := Lib.hid hon1; clear hon1; have g1 := Ext.size hx1; (try simp only [World.size_drew, World.size_alloc] at g1); (first | ((with_reducible have u1 := one_newq hx1); have l1 := u1.lt; have m1 := Nat.ne_of_lt l1; have n1 := Nat.ne_of_gt l1; obtain ⟨⟨v10, v11, v12⟩, v13⟩ := u1) | skip)))
    all_goals
      go_wp2_with fail
      go_meet
      have o1 := O1.out
      have pb := on_blk o1
      have ps := o1.ok
      have pr := o1.rd
      simp only [World.size_drew, World.size_alloc] at pb
      refine ⟨_, A1, y1, rfl, ?_⟩
      refine ⟨(by (with_reducible (repeat (first | exact Ext.refl _ | assumption | (refine Ext.toSet ?_ (by omega)) | refine Ext.toAlloc ?_ | refine Ext.toDrew ?_ | refine Ext.toDrewN ?_ | refine Ext.trans ?_ (by assumption)))); (first | done | fail "no")), ⟨by go_simp, by go_simp, by go_simp⟩, by first | omega | (simp; done) | (simp; omega), ?_, ps, fun hn a ha => by have := (pb hn a ha).1; omega⟩
      with_reducible (repeat (refine rd_set7 ?_ (fun hn a ha => by have := pb hn a ha; omega) _ _))
      exact pr.ext (by (with_reducible (repeat (first | exact Ext.refl _ | assumption | (refine Ext.toSet ?_ (by omega)) | refine Ext.toAlloc ?_ | refine Ext.toDrew ?_ | refine Ext.toDrewN ?_ | refine Ext.trans ?_ (by assumption)))); (first | done | fail "no"))
  clear c0
  obtain ⟨g', B, z, rfl, hc2⟩ := hcut
  obtain ⟨hx2, hst2, hg2, hrd2, hsl2, hbl2⟩ := hc2.out
  obtain ⟨W3, rfl⟩ : ∃ W3, W3 = wc := ⟨_, rfl⟩
  have c0 := (B7.out.ext (hx.trans hx2)).c0
  obtain ⟨⟨g0, g1, g2⟩, gz⟩ := BX.out.ext (hx.trans hx2)
  obtain ⟨r0, r1, r2⟩ := hst2
  obtain ⟨q0, q1, q2⟩ := hst.ext7 hg hx2
  have sz := hx.size
  have sz2 := hx2.size
  have DA := Lib.hid (Dy.valid (hrd.ext hx2) hsl KA.out LA.out)
  have DB := Lib.hid (Dy.valid hrd2 hsl2 KB.out LB.out)
  go_wp2_with (go_at_call 54; (with_reducible refine (rsub_any DA.out DB.out).mono ?_); rw [HN.out]; rintro e1 w4 ⟨A4, y4, rfl, hon4, hx4⟩; have O4 := Lib.hid hon4; clear hon4 g0 g1 g2 gz; obtain ⟨⟨g0, g1, g2⟩, gz⟩ := BX.out.ext ((hx.trans hx2).trans hx4))
  have hz := HZ.out
  refine bodyPost_ret (v := dv d.neg A4 (len d.m) y4 d.den) (by simp [results, Try.results38, go_sem, g0, g1, g2]) rfl ?_
  exact DyRd.of (W := W3) (w2 := w4) (g := w.heap.size + 1) rfl O4.out (HE.out.trans ((hx.trans hx2).trans hx4)) (Ext.refl _) (by omega) (by omega)
set_option maxRecDepth 100000 in
set_option maxHeartbeats 1000000 in
theorem rres_8 {w : World} {dst sa sb im : Int} {a : Nat} {b : Nat} {Ac Ai : Option Addr} {nc cc np ci : Nat} {c IN : Nat → Int} (rc : Ri w Ac nc c) (hA : a < nc) (hB : b < nc) (hc : ∀ i, i < nc → wdB (c i) = true) (h1 : -62 ≤ sa) (h2 : sa ≤ 30) (h3 : -62 ≤ sb) (h4 : sb ≤ 30) :
    Calls Try.prog 38 #[insV ⟨8, dst, a, b, sa, sb, im⟩, .slice Ac nc cc, .slice Ai np ci] w (DyRd (ofI (reI ⟨8, dst, a, b, sa, sb, im⟩ c IN) 0) w) := by
  obtain ⟨W1, hW1⟩ : ∃ W1, W1 = (w.alloc (.cells #[I 8, I dst, I a, I b, I sa, I sb, I im] 52)).alloc (.cells #[.bool false, .slice none 0 0, I 0] 82) := ⟨_, rfl⟩
  obtain ⟨hE, b7, bx, hz⟩ := two_res (x := ⟨8, dst, a, b, sa, sb, im⟩) hW1
  have HE := Lib.hid hE; have B7 := Lib.hid b7; have BX := Lib.hid bx
  obtain ⟨ba, oa, ea, hba, ca⟩ := rc (by omega)
  have xa := (hE.old.1 ba (oa + a) hba).trans (ca a hA)
  have wa := hc a hA
  have xb := (hE.old.1 ba (oa + b) hba).trans (ca b hB)
  have wb := hc b hB
  have HV : Hid (ofI (reI ⟨8, dst, a, b, sa, sb, im⟩ c IN) 0 = ofI (min (shI (c a) sa) (shI (c b) sb)) 0) := rfl
  generalize c b = vb at *
  generalize hva : c a = va at *
  clear hva
  subst ea
  rw [HV.out]; clear HV
  have HSA : Hid (∀ w', Calls Try.prog 50 #[I va, I sa] w' (DyRes (ofI (shI va sa) 0) w')) := fun w' => rsh_any va sa (by have := wdB_iff.1 wa; omega) (by have := wdB_iff.1 wa; omega) h1 h2
  have hp := shI_wd wa h2
  have ka := ofZ_ok (shI va sa)
  have la := len_big (n := shI va sa) (by omega) (by omega)
  have HSB : Hid (∀ w', Calls Try.prog 50 #[I vb, I sb] w' (DyRes (ofI (shI vb sb) 0) w')) := fun w' => rsh_any vb sb (by have := wdB_iff.1 wb; omega) (by have := wdB_iff.1 wb; omega) h3 h4
  have hq := shI_wd wb h4
  have kb := ofZ_ok (shI vb sb)
  have lb := len_big (n := shI vb sb) (by omega) (by omega)
  have LS : Hid (len (subD (ofI (shI va sa) 0) (ofI (shI vb sb) 0)).m ≤ 16777216) := by show _; rw [sub_ofZ]; exact len_big (by omega) (by omega)
  have KS : Hid (subD (ofI (shI va sa) 0) (ofI (shI vb sb) 0)).ok := by show _; rw [sub_ofZ]; exact ofZ_ok _
  have HN := Lib.hid (min_ofZ (shI va sa) (shI vb sb))
  generalize ofI (min (shI va sa) (shI vb sb)) 0 = d at *
  generalize hd1 : ofI (shI va sa) 0 = d1 at *
  clear hd1
  generalize hd2 : ofI (shI vb sb) 0 = d2 at *
  clear hd2
  clear hp hq
  have KA := Lib.hid ka; have LA := Lib.hid la
  clear ka la
  have KB := Lib.hid kb; have LB := Lib.hid lb
  clear kb lb
  have ha' : (a : Int) < (nc : Int) := by omega
  have hb' : (b : Int) < (nc : Int) := by omega
  have XA := Lib.hid xa; have HBA := Lib.hid (show ba < W1.heap.size by omega)
  have XB := Lib.hid xb
  have HS : Hid (∀ w', Ext W1 w' → w'.cell? ⟨w.heap.size, 2, none⟩ = some (I a) ∧ w'.cell? ⟨w.heap.size, 4, none⟩ = some (I sa) ∧ w'.cell? ⟨ba, oa + a, none⟩ = some (I va)) := fun w' x => ⟨(B7.out.ext x).c2, (B7.out.ext x).c4, (x.old.1 _ _ HBA.out).trans XA.out⟩
  have HS2 : Hid (∀ w', Ext W1 w' → w'.cell? ⟨w.heap.size, 3, none⟩ = some (I b) ∧ w'.cell? ⟨w.heap.size, 5, none⟩ = some (I sb) ∧ w'.cell? ⟨ba, oa + b, none⟩ = some (I vb)) := fun w' x => ⟨(B7.out.ext x).c3, (B7.out.ext x).c5, (x.old.1 _ _ HBA.out).trans XB.out⟩
  have c0 := b7.c0
  have HZ := Lib.hid hz
  clear hE b7 bx hz
  go_enter Try.func38, Try.ntmps38
  go_upto_region 1 with fail
  rw [← hW1]; clear hW1
  go_upto_region 10 with fail
  go_cut [7] (fun s7 wx => ∃ g A y, s7 = .pointer (some ⟨g, 0, none⟩) ∧ Hid (BoS W1 wx g d1 A y))
  case first =>
    obtain ⟨m0, m1, m2⟩ := HS.out W1 (Ext.refl _)
    go_region_held3 (fun w' => w'.cell? ⟨w.heap.size, 2, none⟩ = some (I a) ∧ w'.cell? ⟨w.heap.size, 4, none⟩ = some (I sa) ∧ w'.cell? ⟨ba, oa + a, none⟩ = some (I va)) (first | with_reducible assumption | exact HS.out _ (by (with_reducible (repeat (first | exact Ext.refl _ | assumption | (refine Ext.toSet ?_ (by omega)) | refine Ext.toAlloc ?_ | refine Ext.toDrew ?_ | refine Ext.toDrewN ?_ | refine Ext.trans ?_ (by assumption)))); (first | done | fail "no")))
      ((go_at_call 50; (with_reducible refine (HSA.out _).mono ?_); rintro e1 w3 ⟨A1, y1, rfl, hon1, hx1⟩; have O1 := Lib.hid hon1; clear hon1; have g1 := Ext.size hx1; (try simp only [World.size_drew, World.size_alloc] at g1); (first | ((with_reducible have u1 := one_newq hx1); have l1 := u1.lt; have m1 := Nat.ne_of_lt l1; have n1 := Nat.ne_of_gt l1; obtain ⟨⟨v10, v11, v12⟩, v13⟩ := u1) | skip)))
    all_goals
      go_wp2_with fail
      go_meet
      have o1 := O1.out
      have pb := on_blk o1
      have ps := o1.ok
      have pr := o1.rd
      simp only [World.size_drew, World.size_alloc] at pb
      refine ⟨_, A1, y1, rfl, ?_⟩
      refine ⟨(by (with_reducible (repeat (first | exact Ext.refl _ | assumption | (refine Ext.toSet ?_ (by omega)) | refine Ext.toAlloc ?_ | refine Ext.toDrew ?_ | refine Ext.toDrewN ?_ | refine Ext.trans ?_ (by assumption)))); (first | done | fail "no")), ⟨by go_simp, by go_simp, by go_simp⟩, by first | omega | (simp; done) | (simp; omega), ?_, ps, fun hn a ha => by have := (pb hn a ha).1; omega⟩
      with_reducible (repeat (refine rd_set7 ?_ (fun hn a ha => by have := pb hn a ha; omega) _ _))
      exact pr.ext (by (with_reducible (repeat (first | exact Ext.refl _ | assumption | (refine Ext.toSet ?_ (by omega)) | refine Ext.toAlloc ?_ | refine Ext.toDrew ?_ | refine Ext.toDrewN ?_ | refine Ext.trans ?_ (by assumption)))); (first | done | fail "no"))
  clear c0
  obtain ⟨g, A, y, rfl, hc'⟩ := hcut
  obtain ⟨hx, hst, hg, hrd, hsl, hbl⟩ := hc'.out
  obtain ⟨W2, rfl⟩ : ∃ W2, W2 = wc := ⟨_, rfl⟩
  have HX := Lib.hid hx
  have c0 := (B7.out.ext hx).c0
  have HT : Hid (∀ w', Ext W2 w' → w'.cell? ⟨w.heap.size, 3, none⟩ = some (I b) ∧ w'.cell? ⟨w.heap.size, 5, none⟩ = some (I sb) ∧ w'.cell? ⟨ba, oa + b, none⟩ = some (I vb)) := fun w' x => HS2.out w' (HX.out.trans x)
  clear HS
  go_upto_region 18 with fail
  go_cut [8] (fun s7 wx => ∃ g A y, s7 = .pointer (some ⟨g, 0, none⟩) ∧ Hid (BoS W2 wx g d2 A y))
  case first =>
    obtain ⟨m0, m1, m2⟩ := HT.out W2 (Ext.refl _)
    go_region_held3 (fun w' => w'.cell? ⟨w.heap.size, 3, none⟩ = some (I b) ∧ w'.cell? ⟨w.heap.size, 5, none⟩ = some (I sb) ∧ w'.cell? ⟨ba, oa + b, none⟩ = some (I vb)) (first | with_reducible assumption | exact HT.out _ (by (with_reducible (repeat (first | exact Ext.refl _ | assumption | (refine Ext.toSet ?_ (by omega)) | refine Ext.toAlloc ?_ | refine Ext.toDrew ?_ | refine Ext.toDrewN ?_ | refine Ext.trans ?_ (by assumption)))); (first | done | fail "no")))
      ((go_at_call 50; (with_reducible refine (HSB.out _).mono ?_); rintro e1 w3 ⟨A1, y1, rfl, hon1, hx1⟩; have O1 := Lib.hid hon1; clear hon1; have g1 := Ext.size hx1; (try simp only [World.size_drew, World.size_alloc] at g1); (first | ((with_reducible have u1 := one_newq hx1); have l1 := u1.lt; have m1 := Nat.ne_of_lt l1; have n1 := Nat.ne_of_gt l1; obtain ⟨⟨v10, v11, v12⟩, v13⟩ := u1) | skip)))
    all_goals
      go_wp2_with fail
      go_meet
      have o1 := O1.out
      have pb := on_blk o1
      have ps := o1.ok
      have pr := o1.rd
      simp only [World.size_drew, World.size_alloc] at pb
      refine ⟨_, A1, y1, rfl, ?_⟩
      refine ⟨(by (with_reducible (repeat (first | exact Ext.refl _ | assumption | (refine Ext.toSet ?_ (by omega)) | refine Ext.toAlloc ?_ | refine Ext.toDrew ?_ | refine Ext.toDrewN ?_ | refine Ext.trans ?_ (by assumption)))); (first | done | fail "no")), ⟨by go_simp, by go_simp, by go_simp⟩, by first | omega | (simp; done) | (simp; omega), ?_, ps, fun hn a ha => by have := (pb hn a ha).1; omega⟩
      with_reducible (repeat (refine rd_set7 ?_ (fun hn a ha => by have := pb hn a ha; omega) _ _))
      exact pr.ext (by (with_reducible (repeat (first | exact Ext.refl _ | assumption | (refine Ext.toSet ?_ (by omega)) | refine Ext.toAlloc ?_ | refine Ext.toDrew ?_ | refine Ext.toDrewN ?_ | refine Ext.trans ?_ (by assumption)))); (first | done | fail "no"))
  clear c0
  obtain ⟨g', B, z, rfl, hc2⟩ := hcut
  obtain ⟨hx2, hst2, hg2, hrd2, hsl2, hbl2⟩ := hc2.out
  obtain ⟨W3, rfl⟩ : ∃ W3, W3 = wc := ⟨_, rfl⟩
  have c0 := (B7.out.ext (hx.trans hx2)).c0
  obtain ⟨⟨g0, g1, g2⟩, gz⟩ := BX.out.ext (hx.trans hx2)
  obtain ⟨r0, r1, r2⟩ := hst2
  obtain ⟨q0, q1, q2⟩ := hst.ext7 hg hx2
  have sz := hx.size
  have sz2 := hx2.size
  have DA := Lib.hid (Dy.valid (hrd.ext hx2) hsl KA.out LA.out)
  have DB := Lib.hid (Dy.valid hrd2 hsl2 KB.out LB.out)
  go_wp2_with (go_at_call 55; (with_reducible refine (rmin_any DA.out DB.out LS.out KS.out).mono ?_); rw [HN.out]; rintro e1 w4 ⟨A4, y4, rfl, hon4, hx4⟩; have O4 := Lib.hid hon4; clear hon4 g0 g1 g2 gz; obtain ⟨⟨g0, g1, g2⟩, gz⟩ := BX.out.ext ((hx.trans hx2).trans hx4))
  have hz := HZ.out
  refine bodyPost_ret (v := dv d.neg A4 (len d.m) y4 d.den) (by simp [results, Try.results38, go_sem, g0, g1, g2]) rfl ?_
  exact DyRd.of (W := W3) (w2 := w4) (g := w.heap.size + 1) rfl O4.out (HE.out.trans ((hx.trans hx2).trans hx4)) (Ext.refl _) (by omega) (by omega)
set_option maxRecDepth 100000 in
set_option maxHeartbeats 1000000 in
theorem rres_9 {w : World} {dst sa sb im : Int} {a : Nat} {b : Nat} {Ac Ai : Option Addr} {nc cc np ci : Nat} {c IN : Nat → Int} (rc : Ri w Ac nc c) (hA : a < nc) (hB : b < nc) (hc : ∀ i, i < nc → wdB (c i) = true) (h1 : -62 ≤ sa) (h2 : sa ≤ 30) (h3 : -62 ≤ sb) (h4 : sb ≤ 30) :
    Calls Try.prog 38 #[insV ⟨9, dst, a, b, sa, sb, im⟩, .slice Ac nc cc, .slice Ai np ci] w (DyRd (ofI (reI ⟨9, dst, a, b, sa, sb, im⟩ c IN) 0) w) := by
  obtain ⟨W1, hW1⟩ : ∃ W1, W1 = (w.alloc (.cells #[I 9, I dst, I a, I b, I sa, I sb, I im] 52)).alloc (.cells #[.bool false, .slice none 0 0, I 0] 82) := ⟨_, rfl⟩
  obtain ⟨hE, b7, bx, hz⟩ := two_res (x := ⟨9, dst, a, b, sa, sb, im⟩) hW1
  have HE := Lib.hid hE; have B7 := Lib.hid b7; have BX := Lib.hid bx
  obtain ⟨ba, oa, ea, hba, ca⟩ := rc (by omega)
  have xa := (hE.old.1 ba (oa + a) hba).trans (ca a hA)
  have wa := hc a hA
  have xb := (hE.old.1 ba (oa + b) hba).trans (ca b hB)
  have wb := hc b hB
  have HV : Hid (ofI (reI ⟨9, dst, a, b, sa, sb, im⟩ c IN) 0 = ofI (max (shI (c a) sa) (shI (c b) sb)) 0) := rfl
  generalize c b = vb at *
  generalize hva : c a = va at *
  clear hva
  subst ea
  rw [HV.out]; clear HV
  have HSA : Hid (∀ w', Calls Try.prog 50 #[I va, I sa] w' (DyRes (ofI (shI va sa) 0) w')) := fun w' => rsh_any va sa (by have := wdB_iff.1 wa; omega) (by have := wdB_iff.1 wa; omega) h1 h2
  have hp := shI_wd wa h2
  have ka := ofZ_ok (shI va sa)
  have la := len_big (n := shI va sa) (by omega) (by omega)
  have HSB : Hid (∀ w', Calls Try.prog 50 #[I vb, I sb] w' (DyRes (ofI (shI vb sb) 0) w')) := fun w' => rsh_any vb sb (by have := wdB_iff.1 wb; omega) (by have := wdB_iff.1 wb; omega) h3 h4
  have hq := shI_wd wb h4
  have kb := ofZ_ok (shI vb sb)
  have lb := len_big (n := shI vb sb) (by omega) (by omega)
  have LS : Hid (len (subD (ofI (shI va sa) 0) (ofI (shI vb sb) 0)).m ≤ 16777216) := by show _; rw [sub_ofZ]; exact len_big (by omega) (by omega)
  have KS : Hid (subD (ofI (shI va sa) 0) (ofI (shI vb sb) 0)).ok := by show _; rw [sub_ofZ]; exact ofZ_ok _
  have HN := Lib.hid (max_ofZ (shI va sa) (shI vb sb))
  generalize ofI (max (shI va sa) (shI vb sb)) 0 = d at *
  generalize hd1 : ofI (shI va sa) 0 = d1 at *
  clear hd1
  generalize hd2 : ofI (shI vb sb) 0 = d2 at *
  clear hd2
  clear hp hq
  have KA := Lib.hid ka; have LA := Lib.hid la
  clear ka la
  have KB := Lib.hid kb; have LB := Lib.hid lb
  clear kb lb
  have ha' : (a : Int) < (nc : Int) := by omega
  have hb' : (b : Int) < (nc : Int) := by omega
  have XA := Lib.hid xa; have HBA := Lib.hid (show ba < W1.heap.size by omega)
  have XB := Lib.hid xb
  have HS : Hid (∀ w', Ext W1 w' → w'.cell? ⟨w.heap.size, 2, none⟩ = some (I a) ∧ w'.cell? ⟨w.heap.size, 4, none⟩ = some (I sa) ∧ w'.cell? ⟨ba, oa + a, none⟩ = some (I va)) := fun w' x => ⟨(B7.out.ext x).c2, (B7.out.ext x).c4, (x.old.1 _ _ HBA.out).trans XA.out⟩
  have HS2 : Hid (∀ w', Ext W1 w' → w'.cell? ⟨w.heap.size, 3, none⟩ = some (I b) ∧ w'.cell? ⟨w.heap.size, 5, none⟩ = some (I sb) ∧ w'.cell? ⟨ba, oa + b, none⟩ = some (I vb)) := fun w' x => ⟨(B7.out.ext x).c3, (B7.out.ext x).c5, (x.old.1 _ _ HBA.out).trans XB.out⟩
  have c0 := b7.c0
  have HZ := Lib.hid hz
  clear hE b7 bx hz
  go_enter Try.func38, Try.ntmps38
  go_upto_region 1 with fail
  rw [← hW1]; clear hW1
  go_upto_region 10 with fail
  go_cut [7] (fun s7 wx => ∃ g A y, s7 = .pointer (some ⟨g, 0, none⟩) ∧ Hid (BoS W1 wx g d1 A y))
  case first =>
    obtain ⟨m0, m1, m2⟩ := HS.out W1 (Ext.refl _)
    go_region_held3 (fun w' => w'.cell? ⟨w.heap.size, 2, none⟩ = some (I a) ∧ w'.cell? ⟨w.heap.size, 4, none⟩ = some (I sa) ∧ w'.cell? ⟨ba, oa + a, none⟩ = some (I va)) (first | with_reducible assumption | exact HS.out _ (by (with_reducible (repeat (first | exact Ext.refl _ | assumption | (refine Ext.toSet ?_ (by omega)) | refine Ext.toAlloc ?_ | refine Ext.toDrew ?_ | refine Ext.toDrewN ?_ | refine Ext.trans ?_ (by assumption)))); (first | done | fail "no")))
      ((go_at_call 50; (with_reducible refine (HSA.out _).mono ?_); rintro e1 w3 ⟨A1, y1, rfl, hon1, hx1⟩; have O1 := Lib.hid hon1; clear hon1; have g1 := Ext.size hx1; (try simp only [World.size_drew, World.size_alloc] at g1); (first | ((with_reducible have u1 := one_newq hx1); have l1 := u1.lt; have m1 := Nat.ne_of_lt l1; have n1 := Nat.ne_of_gt l1; obtain ⟨⟨v10, v11, v12⟩, v13⟩ := u1) | skip)))
    all_goals
      go_wp2_with fail
      go_meet
      have o1 := O1.out
      have pb := on_blk o1
      have ps := o1.ok
      have pr := o1.rd
      simp only [World.size_drew, World.size_alloc] at pb
      refine ⟨_, A1, y1, rfl, ?_⟩
      refine ⟨(by (with_reducible (repeat (first | exact Ext.refl _ | assumption | (refine Ext.toSet ?_ (by omega)) | refine Ext.toAlloc ?_ | refine Ext.toDrew ?_ | refine Ext.toDrewN ?_ | refine Ext.trans ?_ (by assumption)))); (first | done | fail "no")), ⟨by go_simp, by go_simp, by go_simp⟩, by first | omega | (simp; done) | (simp; omega), ?_, ps, fun hn a ha => by have := (pb hn a ha).1; omega⟩
      with_reducible (repeat (refine rd_set7 ?_ (fun hn a ha => by have := pb hn a ha; omega) _ _))
      exact pr.ext (by (with_reducible (repeat (first | exact Ext.refl _ | assumption | (refine Ext.toSet ?_ (by omega)) | refine Ext.toAlloc ?_ | refine Ext.toDrew ?_ | refine Ext.toDrewN ?_ | refine Ext.trans ?_ (by assumption)))); (first | done | fail "no"))
  clear c0
  obtain ⟨g, A, y, rfl, hc'⟩ := hcut
  obtain ⟨hx, hst, hg, hrd, hsl, hbl⟩ := hc'.out
  obtain ⟨W2, rfl⟩ : ∃ W2, W2 = wc := ⟨_, rfl⟩
  have HX := Lib.hid hx
  have c0 := (B7.out.ext hx).c0
  have HT : Hid (∀ w', Ext W2 w' → w'.cell? ⟨w.heap.size, 3, none⟩ = some (I b) ∧ w'.cell? ⟨w.heap.size, 5, none⟩ = some (I sb) ∧ w'.cell? ⟨ba, oa + b, none⟩ = some (I vb)) := fun w' x => HS2.out w' (HX.out.trans x)
  clear HS
  go_upto_region 18 with fail
  go_cut [8] (fun s7 wx => ∃ g A y, s7 = .pointer (some ⟨g, 0, none⟩) ∧ Hid (BoS W2 wx g d2 A y))
  case first =>
    obtain ⟨m0, m1, m2⟩ := HT.out W2 (Ext.refl _)
    go_region_held3 (fun w' => w'.cell? ⟨w.heap.size, 3, none⟩ = some (I b) ∧ w'.cell? ⟨w.heap.size, 5, none⟩ = some (I sb) ∧ w'.cell? ⟨ba, oa + b, none⟩ = some (I vb)) (first | with_reducible assumption | exact HT.out _ (by (with_reducible (repeat (first | exact Ext.refl _ | assumption | (refine Ext.toSet ?_ (by omega)) | refine Ext.toAlloc ?_ | refine Ext.toDrew ?_ | refine Ext.toDrewN ?_ | refine Ext.trans ?_ (by assumption)))); (first | done | fail "no")))
      ((go_at_call 50; (with_reducible refine (HSB.out _).mono ?_); rintro e1 w3 ⟨A1, y1, rfl, hon1, hx1⟩; have O1 := Lib.hid hon1; clear hon1; have g1 := Ext.size hx1; (try simp only [World.size_drew, World.size_alloc] at g1); (first | ((with_reducible have u1 := one_newq hx1); have l1 := u1.lt; have m1 := Nat.ne_of_lt l1; have n1 := Nat.ne_of_gt l1; obtain ⟨⟨v10, v11, v12⟩, v13⟩ := u1) | skip)))
    all_goals
      go_wp2_with fail
      go_meet
      have o1 := O1.out
      have pb := on_blk o1
      have ps := o1.ok
      have pr := o1.rd
      simp only [World.size_drew, World.size_alloc] at pb
      refine ⟨_, A1, y1, rfl, ?_⟩
      refine ⟨(by (with_reducible (repeat (first | exact Ext.refl _ | assumption | (refine Ext.toSet ?_ (by omega)) | refine Ext.toAlloc ?_ | refine Ext.toDrew ?_ | refine Ext.toDrewN ?_ | refine Ext.trans ?_ (by assumption)))); (first | done | fail "no")), ⟨by go_simp, by go_simp, by go_simp⟩, by first | omega | (simp; done) | (simp; omega), ?_, ps, fun hn a ha => by have := (pb hn a ha).1; omega⟩
      with_reducible (repeat (refine rd_set7 ?_ (fun hn a ha => by have := pb hn a ha; omega) _ _))
      exact pr.ext (by (with_reducible (repeat (first | exact Ext.refl _ | assumption | (refine Ext.toSet ?_ (by omega)) | refine Ext.toAlloc ?_ | refine Ext.toDrew ?_ | refine Ext.toDrewN ?_ | refine Ext.trans ?_ (by assumption)))); (first | done | fail "no"))
  clear c0
  obtain ⟨g', B, z, rfl, hc2⟩ := hcut
  obtain ⟨hx2, hst2, hg2, hrd2, hsl2, hbl2⟩ := hc2.out
  obtain ⟨W3, rfl⟩ : ∃ W3, W3 = wc := ⟨_, rfl⟩
  have c0 := (B7.out.ext (hx.trans hx2)).c0
  obtain ⟨⟨g0, g1, g2⟩, gz⟩ := BX.out.ext (hx.trans hx2)
  obtain ⟨r0, r1, r2⟩ := hst2
  obtain ⟨q0, q1, q2⟩ := hst.ext7 hg hx2
  have sz := hx.size
  have sz2 := hx2.size
  have DA := Lib.hid (Dy.valid (hrd.ext hx2) hsl KA.out LA.out)
  have DB := Lib.hid (Dy.valid hrd2 hsl2 KB.out LB.out)
  go_wp2_with (go_at_call 56; (with_reducible refine (rmax_any DA.out DB.out LS.out KS.out).mono ?_); rw [HN.out]; rintro e1 w4 ⟨A4, y4, rfl, hon4, hx4⟩; have O4 := Lib.hid hon4; clear hon4 g0 g1 g2 gz; obtain ⟨⟨g0, g1, g2⟩, gz⟩ := BX.out.ext ((hx.trans hx2).trans hx4))
  have hz := HZ.out
  refine bodyPost_ret (v := dv d.neg A4 (len d.m) y4 d.den) (by simp [results, Try.results38, go_sem, g0, g1, g2]) rfl ?_
  exact DyRd.of (W := W3) (w2 := w4) (g := w.heap.size + 1) rfl O4.out (HE.out.trans ((hx.trans hx2).trans hx4)) (Ext.refl _) (by omega) (by omega)
end Go.Proofs.Ytommlhdiefoocaa
