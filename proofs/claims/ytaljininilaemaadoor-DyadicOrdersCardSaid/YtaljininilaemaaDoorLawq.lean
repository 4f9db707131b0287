/- The law DyadicOrders: other numbers. -/
import Derived.Test.YtaljininilaemaaDoorOrd
import Derived.Deep.RegionHeld3
import Derived.Deep.DeepCutAuto
namespace Go.Proofs.YtaljininilaemaaDoor
open Go.RowKit

set_option maxRecDepth 100000 in
set_option maxHeartbeats 8000000 in
theorem orders_ne {w : World} {na nb nc : Bool} {A A' B B' C C' : Option Addr} {a0 a1 a2 b0 b1 b2 c0 c1 c2 : Nat} {da db dc : Int} {a b c : DV} (hha : Dy w na A a0 a1 da a A' a2) (hhb : Dy w nb B b0 b1 db b B' b2) (hhc : Dy w nc C c0 c1 dc c C' c2) (hT : Tabs w)
    (fa : fewOk a0 da) (fb : fewOk b0 db) (fc : fewOk c0 dc) (sa : Sm a) (sb : Sm b) (sc : Sm c)(hP : TabP w) (hx0 : cmpD a b ≠ 0) :
    Calls Tryd.prog 4 #[dv na A a0 a1 da, dv nb B b0 b1 db, dv nc C c0 c1 dc] w fun e w' => e = .returned (.bool true) ∧ Ext w w' := by
  have HA := Lib.hid hha; have HB := Lib.hid hhb; have HC := Lib.hid hhc; have HT := Lib.hid hT; have HP := Lib.hid hP; clear hha hhb hhc hT hP
  obtain ⟨oa, la, ta⟩ := sa
  obtain ⟨ob, lb, tb⟩ := sb
  obtain ⟨oc, lc, tc⟩ := sc
  have HFW := Lib.hid (few3 fa fb fc)
  clear fa fb fc
  obtain ⟨sb, hsb⟩ : ∃ x, subD a b = x := ⟨_, rfl⟩
  obtain ⟨ac, hac⟩ : ∃ x, addD a c = x := ⟨_, rfl⟩
  obtain ⟨bc, hbc⟩ : ∃ x, addD b c = x := ⟨_, rfl⟩
  obtain ⟨mac, hmac⟩ : ∃ x, mulD a c = x := ⟨_, rfl⟩
  obtain ⟨mbc, hmbc⟩ : ∃ x, mulD b c = x := ⟨_, rfl⟩
  obtain ⟨mi, hmi⟩ : ∃ x, minD a b = x := ⟨_, rfl⟩
  obtain ⟨ma, hma⟩ : ∃ x, maxD a b = x := ⟨_, rfl⟩
  obtain ⟨ab, hab⟩ : ∃ x, addD a b = x := ⟨_, rfl⟩
  obtain ⟨z, hz⟩ : ∃ x, signD c = x := ⟨_, rfl⟩
  obtain ⟨v, hv⟩ : ∃ x, cmpD mi ma = x := ⟨_, rfl⟩
  have oc1 := order_facts oa ob oc (by omega) (by omega)
  have xb : -1 ≤ cmpD a b ∧ cmpD a b ≤ 1 := by unfold cmpD signD; split; omega; split <;> omega
  have zb : -1 ≤ signD c ∧ signD c ≤ 1 := by unfold signD; split; omega; split <;> omega
  have cz0 := trivial
  obtain ⟨x, hx⟩ : ∃ x, cmpD a b = x := ⟨_, rfl⟩
  rw [hx] at oc1 xb hx0
  rw [hz] at zb oc1
  obtain ⟨r1, r2, r3, r4, r5, r6⟩ := oc1
  obtain ⟨xb1, xb2⟩ := xb
  obtain ⟨zb1, zb2⟩ := zb
  obtain ⟨nx, hnx⟩ : ∃ y, -x = y := ⟨_, rfl⟩
  obtain ⟨y, hy⟩ : ∃ y, x * z = y := ⟨_, rfl⟩
  have yb : -1 ≤ y ∧ y ≤ 1 := by
    rw [← hy]
    rcases (show x = -1 ∨ x = 0 ∨ x = 1 by omega) with h | h | h <;> rw [h] <;> omega
  have en2 : -x = nx := hnx
  have en1 : IntKind.i64.wrap nx = nx := by rw [IntWalk.i64_in _ (by omega)]
  have ey2 : x * z = y := hy
  have ey1 : IntKind.i64.wrap y = y := by rw [IntWalk.i64_in _ (by omega)]
  rw [hnx] at r1
  rw [hy] at r4
  have Esb : Hid (subD a b = sb) := hsb
  have Eac : Hid (addD a c = ac) := hac
  have Ebc : Hid (addD b c = bc) := hbc
  have Mac : Hid (mulD a c = mac) := hmac
  have Mbc : Hid (mulD b c = mbc) := hmbc
  have Emi : Hid (minD a b = mi) := hmi
  have Ema : Hid (maxD a b = ma) := hma
  have Eab : Hid (addD a b = ab) := hab
  have C0 : Hid (cmpD a b = x) := hx
  have C1 : Hid (cmpD b a = nx) := r1
  have C2 : Hid (signD sb = x) := by show _ = _; rw [← hsb]; exact r2
  have C3 : Hid (cmpD ac bc = x) := by show _ = _; rw [← hac, ← hbc]; exact r3
  have C4 : Hid (cmpD mac mbc = y) := by show _ = _; rw [← hmac, ← hmbc]; exact r4
  have C5 : Hid (signD c = z) := hz
  have Emm : Hid (addD mi ma = ab) := by show _ = _; rw [← hmi, ← hma, ← hab]; exact r5
  have C6 : Hid (cmpD mi ma = v) := hv
  have v0 : v ≤ 0 := by rw [← hv, ← hmi, ← hma]; exact r6
  have Wsb : Hid (sb.ok ∧ len sb.m ≤ 16777216) := ⟨hsb ▸ subD_ok _ _, by have := lim_sub (a := a) (b := b) oa.2.1 ob.2.1; rw [hsb] at this; omega⟩
  have Wac : Hid (ac.ok ∧ len ac.m ≤ 16777216) := ⟨hac ▸ addD_ok _ _, by have := lim_add (a := a) (b := c) oa.2.1 oc.2.1; rw [hac] at this; omega⟩
  have Wbc : Hid (bc.ok ∧ len bc.m ≤ 16777216) := ⟨hbc ▸ addD_ok _ _, by have := lim_add (a := b) (b := c) ob.2.1 oc.2.1; rw [hbc] at this; omega⟩
  have Wmac : Hid (mac.ok ∧ len mac.m ≤ 16777216) := ⟨hmac ▸ mulD_ok _ _, by have := lim_mul a c; rw [hmac] at this; omega⟩
  have Wmbc : Hid (mbc.ok ∧ len mbc.m ≤ 16777216) := ⟨hmbc ▸ mulD_ok _ _, by have := lim_mul b c; rw [hmbc] at this; omega⟩
  have Wmi : Hid (mi.ok ∧ len mi.m ≤ 16777216) := ⟨hmi ▸ minD_ok oa ob, by rw [← hmi]; unfold minD; split <;> omega⟩
  have Wma : Hid (ma.ok ∧ len ma.m ≤ 16777216) := ⟨hma ▸ maxD_ok oa ob, by rw [← hma]; unfold maxD; split <;> omega⟩
  have Wab : Hid (ab.ok ∧ len ab.m ≤ 16777216) := ⟨hab ▸ addD_ok _ _, by have := lim_add (a := a) (b := b) oa.2.1 ob.2.1; rw [hab] at this; omega⟩
  have Lab : Hid (len ab.m ≤ 1073741824) := by have := Wab.out.2; show _ ≤ _; omega
  have La2 : Hid (len a.m ≤ 1048576) := by show _ ≤ _; omega
  have Lb2 : Hid (len b.m ≤ 1048576) := by show _ ≤ _; omega
  have hb0 : (x != 0) = true := by simpa using hx0
  have hb1 : (x == 0) = false := by simpa using hx0
  have hb2 : ¬ x = 0 := hx0
  have hb3 : decide (x = 0) = false := by simpa using hx0
  clear La2 Lb2
  clear hsb hac hbc hmac hmbc hmi hma hab hz hv hx hx0 hnx hy cz0 yb xb1 xb2 zb1 zb2 oa ob oc la lb lc ta tb tc r1 r2 r3 r4 r5 r6
  go_enter Tryd.func4, Tryd.ntmps4
  go_wp2_with fail
  have HN := Lib.hid (nums3 (((w.alloc (.cells #[.bool na, .slice A a0 a1, I da] 24)).alloc (.cells #[.bool nb, .slice B b0 b1, I db] 24)).alloc (.cells #[.bool nc, .slice C c0 c1, I dc] 24)) (w.heap.size + 1 + 1 + 1) (by simp) na nb nc A B C a0 b0 c0 a1 b1 c1 da db dc 24)
  with_reducible refine (few_true HN.out (by simp) (by omega) HFW.out).mono ?_
  rintro e wf ⟨rfl, hx⟩
  have HEF : Hid (Ext w wf) := (((((Ext.alloc _ _).trans (Ext.alloc _ _)).trans (Ext.alloc _ _)).trans (Ext.alloc _ _))).trans hx
  have Y0 : Hid (St wf (w.heap.size) (.bool na) (.slice A a0 a1) (I da)) := by
    have s := (Bx.new w (.bool na) (.slice A a0 a1) (I da) 24).1
    rw [show w.heap.size = w.heap.size by simp] at s
    exact ((((s.ext (Ext.alloc _ _)).ext (Ext.alloc _ _)).ext (Ext.alloc _ _))).ext hx
  have Y1 : Hid (St wf (w.heap.size + 1) (.bool nb) (.slice B b0 b1) (I db)) := by
    have s := (Bx.new (w.alloc (.cells #[.bool na, .slice A a0 a1, I da] 24)) (.bool nb) (.slice B b0 b1) (I db) 24).1
    rw [show (w.alloc (.cells #[.bool na, .slice A a0 a1, I da] 24)).heap.size = w.heap.size + 1 by simp] at s
    exact (((s.ext (Ext.alloc _ _)).ext (Ext.alloc _ _))).ext hx
  have Y2 : Hid (St wf (w.heap.size + 1 + 1) (.bool nc) (.slice C c0 c1) (I dc)) := by
    have s := (Bx.new ((w.alloc (.cells #[.bool na, .slice A a0 a1, I da] 24)).alloc (.cells #[.bool nb, .slice B b0 b1, I db] 24)) (.bool nc) (.slice C c0 c1) (I dc) 24).1
    rw [show ((w.alloc (.cells #[.bool na, .slice A a0 a1, I da] 24)).alloc (.cells #[.bool nb, .slice B b0 b1, I db] 24)).heap.size = w.heap.size + 1 + 1 by simp] at s
    exact ((s.ext (Ext.alloc _ _))).ext hx
  clear hx HN HFW
  go_wp2_with fail
  refine (awake_any _ (HT.out.ext HEF.out)).mono ?_
  rintro e w0 ⟨rfl, hx⟩
  have HEV := Lib.hid (HEF.out.trans hx)
  have V0 := Lib.hid (Y0.out.ext hx); have V1 := Lib.hid (Y1.out.ext hx); have V2 := Lib.hid (Y2.out.ext hx)
  clear hx Y0 Y1 Y2
  obtain ⟨z0, z1, z2⟩ := V0.out
  obtain ⟨z3, z4, z5⟩ := V1.out
  go_wp2_with (go_at_call 20; (with_reducible refine (cmp_any (HA.out.ext HEV.out) (HB.out.ext HEV.out)).mono ?_); rw [C0.out]; rintro e w00 ⟨rfl, hx⟩; have HEU := Lib.hid (HEV.out.trans hx); have U0 := Lib.hid (V0.out.ext hx); have U1 := Lib.hid (V1.out.ext hx); have U2 := Lib.hid (V2.out.ext hx); clear hx)
  have HEW := Lib.hid (HEU.out.trans (Ext.drew _))
  have HS : Hid (∀ w', Ext w00.drew w' → w'.cell? ⟨w.heap.size, 0, none⟩ = some (.bool na) ∧ w'.cell? ⟨w.heap.size, 1, none⟩ = some (.slice A a0 a1) ∧ w'.cell? ⟨w.heap.size, 2, none⟩ = some (I da) ∧ w'.cell? ⟨w.heap.size + 1, 0, none⟩ = some (.bool nb) ∧ w'.cell? ⟨w.heap.size + 1, 1, none⟩ = some (.slice B b0 b1) ∧ w'.cell? ⟨w.heap.size + 1, 2, none⟩ = some (I db) ∧ w'.cell? ⟨w.heap.size + 1 + 1, 0, none⟩ = some (.bool nc) ∧ w'.cell? ⟨w.heap.size + 1 + 1, 1, none⟩ = some (.slice C c0 c1) ∧ w'.cell? ⟨w.heap.size + 1 + 1, 2, none⟩ = some (I dc)) := fun w' e => by
    obtain ⟨p0, q0, r0⟩ := U0.out.ext ((Ext.drew _).trans e)
    obtain ⟨p1, q1, r1⟩ := U1.out.ext ((Ext.drew _).trans e)
    obtain ⟨p2, q2, r2⟩ := U2.out.ext ((Ext.drew _).trans e)
    exact ⟨p0, q0, r0, p1, q1, r1, p2, q2, r2⟩
  clear U0 U1 U2 V0 V1 V2 z0 z1 z2 z3 z4 z5
  have hk := HS.out _ (Ext.refl _)
  dsimp only [List.append]
  refine wp_region_noPanic ?_
  refine wp_region_held_drew (S := fun w' => w'.cell? ⟨w.heap.size, 0, none⟩ = some (.bool na) ∧ w'.cell? ⟨w.heap.size, 1, none⟩ = some (.slice A a0 a1) ∧ w'.cell? ⟨w.heap.size, 2, none⟩ = some (I da) ∧ w'.cell? ⟨w.heap.size + 1, 0, none⟩ = some (.bool nb) ∧ w'.cell? ⟨w.heap.size + 1, 1, none⟩ = some (.slice B b0 b1) ∧ w'.cell? ⟨w.heap.size + 1, 2, none⟩ = some (I db) ∧ w'.cell? ⟨w.heap.size + 1 + 1, 0, none⟩ = some (.bool nc) ∧ w'.cell? ⟨w.heap.size + 1 + 1, 1, none⟩ = some (.slice C c0 c1) ∧ w'.cell? ⟨w.heap.size + 1 + 1, 2, none⟩ = some (I dc)) (by kernel_rfl) ?_ (fun hHeld => ?_)
  · exact hk
  refine wpAnyH_take (i := 0) (oi := { dst := some 22, op := Op.load 24 (Operand.tmp 4), type := 24, pos := "law.go:85", after := #[], guard := none }) (v := ?_) rfl (by kernel_rfl) (by kernel_rfl) (by kernel_rfl) (fun _ _ _ h => h) (Or.inl ⟨by rfl, ?hy⟩) hHeld ?_
  case hy => ((intro w' hSw; (try dsimp only at hSw); go_simp); (try with_reducible rfl))
  (try simp only [Act.put, List.setIfInBounds_toArray, List.set_cons_zero, List.set_cons_succ])
  refine wpAnyH_take (i := 1) (oi := { dst := some 23, op := Op.load 24 (Operand.tmp 3), type := 24, pos := "law.go:85", after := #[], guard := none }) (v := ?_) rfl (by kernel_rfl) (by kernel_rfl) (by kernel_rfl) (fun _ _ _ h => h) (Or.inl ⟨by rfl, ?hy⟩) hHeld ?_
  case hy => ((intro w' hSw; (try dsimp only at hSw); go_simp); (try with_reducible rfl))
  (try simp only [Act.put, List.setIfInBounds_toArray, List.set_cons_zero, List.set_cons_succ])
  refine wpAnyH_take (i := 3) (oi := { dst := some 25, op := Op.move (Operand.tmp 7), type := 3, pos := "law.go:85", after := #[], guard := none }) (v := ?_) rfl (by kernel_rfl) (by kernel_rfl) (by kernel_rfl) (fun _ _ _ h => h) (Or.inl ⟨by rfl, ?hy⟩) hHeld ?_
  case hy => ((intro w' hSw; (try dsimp only at hSw); go_simp); (try with_reducible rfl))
  (try simp only [Act.put, List.setIfInBounds_toArray, List.set_cons_zero, List.set_cons_succ])
  refine wpAnyH_take (i := 4) (oi := { dst := some 26, op := Op.unOp UnOp.neg 3 (Operand.tmp 25), type := 3, pos := "law.go:85", after := #[{ on := 3, ground := Ground.data }], guard := none }) (v := ?_) rfl (by kernel_rfl) (by kernel_rfl) (by kernel_rfl) (fun _ _ _ h => h) (Or.inl ⟨by rfl, ?hy⟩) hHeld ?_
  case hy => ((intro w' hSw; (try dsimp only at hSw); go_simp); (try with_reducible rfl))
  (try simp only [Act.put, List.setIfInBounds_toArray, List.set_cons_zero, List.set_cons_succ])
  refine wpAnyH_ready (rs := [2]) (by kernel_rfl) (by simp) ?_
  refine AllReadyH.cons (o := { dst := some 24, op := Op.call { callee := Callee.value (Operand.func 20), args := #[Operand.tmp 22, Operand.tmp 23], argTypes := #[24, 24] }, type := 3, pos := "law.go:85", after := #[{ on := 0, ground := Ground.data }, { on := 1, ground := Ground.data }], guard := none }) rfl (fun K hK => ?_) AllReadyH.nil
  go_simp
  (go_at_call 20; (with_reducible refine (cmp_any (HB.out.ext (HEW.out.trans (Ext.refl _))) (HA.out.ext (HEW.out.trans (Ext.refl _)))).mono ?_); rw [C1.out]; rintro e w1 ⟨rfl, hx⟩; have HE1 := Lib.hid hx; clear hx hk; have hk := HS.out _ HE1.out)
  (try go_wp2_with fail)
  refine hK.out _ _ hk (fun hHeld' => ?_)
  clear hK K hHeld
  have hHeld := hHeld'
  clear hHeld'
  (try simp only [Act.put, List.setIfInBounds_toArray, List.set_cons_zero, List.set_cons_succ])
  refine wpAnyH_take (i := 5) (oi := { dst := some 27, op := Op.binOp BinOp.eql 3 (Operand.tmp 24) (Operand.tmp 26) 3, type := 4, pos := "law.go:85", after := #[{ on := 2, ground := Ground.data }, { on := 4, ground := Ground.data }], guard := none }) (v := ?_) rfl (by kernel_rfl) (by kernel_rfl) (by kernel_rfl) (fun _ _ _ h => h) (Or.inl ⟨by rfl, ?hy⟩) hHeld ?_
  case hy => ((intro w' hSw; (try dsimp only at hSw); go_simp); (try with_reducible rfl))
  (try simp only [Act.put, List.setIfInBounds_toArray, List.set_cons_zero, List.set_cons_succ])
  refine wpAnyH_take (i := 6) (oi := { dst := some 28, op := Op.move (Operand.tmp 27), type := 4, pos := "law.go:85", after := #[{ on := 5, ground := Ground.data }, { on := 2, ground := Ground.chain }], guard := none }) (v := ?_) rfl (by kernel_rfl) (by kernel_rfl) (by kernel_rfl) (fun _ _ _ h => h) (Or.inl ⟨by rfl, ?hy⟩) hHeld ?_
  case hy => ((intro w' hSw; (try dsimp only at hSw); go_simp); (try with_reducible rfl))
  (try simp only [Act.put, List.setIfInBounds_toArray, List.set_cons_zero, List.set_cons_succ])
  refine wpAnyH_take (i := 7) (oi := { dst := some 29, op := Op.load 24 (Operand.tmp 3), type := 24, pos := "law.go:85", after := #[{ on := 6, ground := Ground.guard }], guard := some (6, true) }) (v := ?_) rfl (by kernel_rfl) (by kernel_rfl) (by kernel_rfl) (fun _ _ _ h => h) (Or.inl ⟨by rfl, ?hy⟩) hHeld ?_
  case hy => ((intro w' hSw; (try dsimp only at hSw); go_simp); (try with_reducible rfl))
  (try simp only [Act.put, List.setIfInBounds_toArray, List.set_cons_zero, List.set_cons_succ])
  refine wpAnyH_take (i := 8) (oi := { dst := some 30, op := Op.load 24 (Operand.tmp 4), type := 24, pos := "law.go:85", after := #[{ on := 6, ground := Ground.guard }], guard := some (6, true) }) (v := ?_) rfl (by kernel_rfl) (by kernel_rfl) (by kernel_rfl) (fun _ _ _ h => h) (Or.inl ⟨by rfl, ?hy⟩) hHeld ?_
  case hy => ((intro w' hSw; (try dsimp only at hSw); go_simp); (try with_reducible rfl))
  (try simp only [Act.put, List.setIfInBounds_toArray, List.set_cons_zero, List.set_cons_succ])
  refine wpAnyH_take (i := 11) (oi := { dst := some 33, op := Op.move (Operand.tmp 7), type := 3, pos := "law.go:85", after := #[{ on := 6, ground := Ground.guard }], guard := some (6, true) }) (v := ?_) rfl (by kernel_rfl) (by kernel_rfl) (by kernel_rfl) (fun _ _ _ h => h) (Or.inl ⟨by rfl, ?hy⟩) hHeld ?_
  case hy => ((intro w' hSw; (try dsimp only at hSw); go_simp); (try with_reducible rfl))
  (try simp only [Act.put, List.setIfInBounds_toArray, List.set_cons_zero, List.set_cons_succ])
  refine wpAnyH_ready (rs := [9]) (by kernel_rfl) (by simp) ?_
  refine AllReadyH.cons (o := { dst := some 31, op := Op.call { callee := Callee.value (Operand.func 24), args := #[Operand.tmp 29, Operand.tmp 30], argTypes := #[24, 24] }, type := 24, pos := "law.go:85", after := #[{ on := 7, ground := Ground.data }, { on := 8, ground := Ground.data }, { on := 6, ground := Ground.chain }, { on := 6, ground := Ground.guard }], guard := some (6, true) }) rfl (fun K hK => ?_) AllReadyH.nil
  go_simp
  (go_at_call 24; (with_reducible refine (sub_any (HA.out.ext (HEW.out.trans HE1.out)) (HB.out.ext (HEW.out.trans HE1.out)) (HT.out.ext (HEW.out.trans HE1.out))).mono ?_); rw [Esb.out]; rintro e w2 ⟨A1, c1, rfl, hon, hx⟩; have HE2 := Lib.hid hx; have HI1 := Lib.hid (Dy.at_ hon Wsb.out.1 Wsb.out.2); clear hon; clear hx hk; have hk := HS.out _ (HE1.out.trans HE2.out))
  (try go_wp2_with fail)
  refine hK.out _ _ hk (fun hHeld' => ?_)
  clear hK K hHeld
  have hHeld := hHeld'
  clear hHeld'
  (try simp only [Act.put, List.setIfInBounds_toArray, List.set_cons_zero, List.set_cons_succ])
  refine wpAnyH_ready (rs := [10]) (by kernel_rfl) (by simp) ?_
  refine AllReadyH.cons (o := { dst := some 32, op := Op.call { callee := Callee.value (Operand.func 19), args := #[Operand.tmp 31], argTypes := #[24] }, type := 3, pos := "law.go:85", after := #[{ on := 9, ground := Ground.data }, { on := 9, ground := Ground.chain }, { on := 6, ground := Ground.guard }], guard := some (6, true) }) rfl (fun K hK => ?_) AllReadyH.nil
  go_simp
  (go_at_call 19; (with_reducible refine (sign_any (HI1.out _ (Ext.refl _))).mono ?_); rw [C2.out]; rintro e w3 ⟨rfl, hx⟩; have HE3 := Lib.hid hx; clear hx hk; have hk := HS.out _ ((HE1.out.trans HE2.out).trans HE3.out))
  (try go_wp2_with fail)
  refine hK.out _ _ hk (fun hHeld' => ?_)
  clear hK K hHeld
  have hHeld := hHeld'
  clear hHeld'
  (try simp only [Act.put, List.setIfInBounds_toArray, List.set_cons_zero, List.set_cons_succ])
  refine wpAnyH_take (i := 12) (oi := { dst := some 34, op := Op.binOp BinOp.eql 3 (Operand.tmp 32) (Operand.tmp 33) 3, type := 4, pos := "law.go:85", after := #[{ on := 10, ground := Ground.data }, { on := 11, ground := Ground.data }, { on := 6, ground := Ground.guard }], guard := some (6, true) }) (v := ?_) rfl (by kernel_rfl) (by kernel_rfl) (by kernel_rfl) (fun _ _ _ h => h) (Or.inl ⟨by rfl, ?hy⟩) hHeld ?_
  case hy => ((intro w' hSw; (try dsimp only at hSw); go_simp); (try with_reducible rfl))
  (try simp only [Act.put, List.setIfInBounds_toArray, List.set_cons_zero, List.set_cons_succ])
  refine wpAnyH_take (i := 13) (oi := { dst := some 35, op := Op.pick (Operand.tmp 28) (Operand.tmp 34) (Operand.const (Value.bool false)), type := 4, pos := "law.go:85", after := #[{ on := 6, ground := Ground.data }, { on := 12, ground := Ground.data }], guard := none }) (v := ?_) rfl (by kernel_rfl) (by kernel_rfl) (by kernel_rfl) (fun _ _ _ h => h) (Or.inl ⟨by rfl, ?hy⟩) hHeld ?_
  case hy => ((intro w' hSw; (try dsimp only at hSw); go_simp); (try with_reducible rfl))
  (try simp only [Act.put, List.setIfInBounds_toArray, List.set_cons_zero, List.set_cons_succ])
  refine wpAnyH_take (i := 14) (oi := { dst := some 36, op := Op.move (Operand.tmp 35), type := 4, pos := "law.go:85", after := #[{ on := 13, ground := Ground.data }, { on := 10, ground := Ground.chain }], guard := none }) (v := ?_) rfl (by kernel_rfl) (by kernel_rfl) (by kernel_rfl) (fun _ _ _ h => h) (Or.inl ⟨by rfl, ?hy⟩) hHeld ?_
  case hy => ((intro w' hSw; (try dsimp only at hSw); go_simp); (try with_reducible rfl))
  (try simp only [Act.put, List.setIfInBounds_toArray, List.set_cons_zero, List.set_cons_succ])
  refine wpAnyH_take (i := 15) (oi := { dst := some 37, op := Op.load 24 (Operand.tmp 3), type := 24, pos := "law.go:85", after := #[{ on := 14, ground := Ground.guard }], guard := some (14, true) }) (v := ?_) rfl (by kernel_rfl) (by kernel_rfl) (by kernel_rfl) (fun _ _ _ h => h) (Or.inl ⟨by rfl, ?hy⟩) hHeld ?_
  case hy => ((intro w' hSw; (try dsimp only at hSw); go_simp); (try with_reducible rfl))
  (try simp only [Act.put, List.setIfInBounds_toArray, List.set_cons_zero, List.set_cons_succ])
  refine wpAnyH_take (i := 16) (oi := { dst := some 38, op := Op.load 24 (Operand.tmp 5), type := 24, pos := "law.go:85", after := #[{ on := 14, ground := Ground.guard }], guard := some (14, true) }) (v := ?_) rfl (by kernel_rfl) (by kernel_rfl) (by kernel_rfl) (fun _ _ _ h => h) (Or.inl ⟨by rfl, ?hy⟩) hHeld ?_
  case hy => ((intro w' hSw; (try dsimp only at hSw); go_simp); (try with_reducible rfl))
  (try simp only [Act.put, List.setIfInBounds_toArray, List.set_cons_zero, List.set_cons_succ])
  refine wpAnyH_take (i := 18) (oi := { dst := some 40, op := Op.load 24 (Operand.tmp 4), type := 24, pos := "law.go:85", after := #[{ on := 14, ground := Ground.guard }], guard := some (14, true) }) (v := ?_) rfl (by kernel_rfl) (by kernel_rfl) (by kernel_rfl) (fun _ _ _ h => h) (Or.inl ⟨by rfl, ?hy⟩) hHeld ?_
  case hy => ((intro w' hSw; (try dsimp only at hSw); go_simp); (try with_reducible rfl))
  (try simp only [Act.put, List.setIfInBounds_toArray, List.set_cons_zero, List.set_cons_succ])
  refine wpAnyH_take (i := 19) (oi := { dst := some 41, op := Op.load 24 (Operand.tmp 5), type := 24, pos := "law.go:85", after := #[{ on := 14, ground := Ground.guard }], guard := some (14, true) }) (v := ?_) rfl (by kernel_rfl) (by kernel_rfl) (by kernel_rfl) (fun _ _ _ h => h) (Or.inl ⟨by rfl, ?hy⟩) hHeld ?_
  case hy => ((intro w' hSw; (try dsimp only at hSw); go_simp); (try with_reducible rfl))
  (try simp only [Act.put, List.setIfInBounds_toArray, List.set_cons_zero, List.set_cons_succ])
  refine wpAnyH_take (i := 22) (oi := { dst := some 44, op := Op.move (Operand.tmp 7), type := 3, pos := "law.go:85", after := #[{ on := 14, ground := Ground.guard }], guard := some (14, true) }) (v := ?_) rfl (by kernel_rfl) (by kernel_rfl) (by kernel_rfl) (fun _ _ _ h => h) (Or.inl ⟨by rfl, ?hy⟩) hHeld ?_
  case hy => ((intro w' hSw; (try dsimp only at hSw); go_simp); (try with_reducible rfl))
  (try simp only [Act.put, List.setIfInBounds_toArray, List.set_cons_zero, List.set_cons_succ])
  refine wpAnyH_ready (rs := [17]) (by kernel_rfl) (by simp) ?_
  refine AllReadyH.cons (o := { dst := some 39, op := Op.call { callee := Callee.value (Operand.func 23), args := #[Operand.tmp 37, Operand.tmp 38], argTypes := #[24, 24] }, type := 24, pos := "law.go:85", after := #[{ on := 15, ground := Ground.data }, { on := 16, ground := Ground.data }, { on := 14, ground := Ground.chain }, { on := 14, ground := Ground.guard }], guard := some (14, true) }) rfl (fun K hK => ?_) AllReadyH.nil
  go_simp
  (go_at_call 23; (with_reducible refine (add_any (HA.out.ext (HEW.out.trans ((HE1.out.trans HE2.out).trans HE3.out))) (HC.out.ext (HEW.out.trans ((HE1.out.trans HE2.out).trans HE3.out))) (HT.out.ext (HEW.out.trans ((HE1.out.trans HE2.out).trans HE3.out)))).mono ?_); rw [Eac.out]; rintro e w4 ⟨A2, c2, rfl, hon, hx⟩; have HE4 := Lib.hid hx; have HI2 := Lib.hid (Dy.at_ hon Wac.out.1 Wac.out.2); clear hon; clear hx hk; have hk := HS.out _ (((HE1.out.trans HE2.out).trans HE3.out).trans HE4.out))
  (try go_wp2_with fail)
  refine hK.out _ _ hk (fun hHeld' => ?_)
  clear hK K hHeld
  have hHeld := hHeld'
  clear hHeld'
  (try simp only [Act.put, List.setIfInBounds_toArray, List.set_cons_zero, List.set_cons_succ])
  refine wpAnyH_ready (rs := [20]) (by kernel_rfl) (by simp) ?_
  refine AllReadyH.cons (o := { dst := some 42, op := Op.call { callee := Callee.value (Operand.func 23), args := #[Operand.tmp 40, Operand.tmp 41], argTypes := #[24, 24] }, type := 24, pos := "law.go:85", after := #[{ on := 18, ground := Ground.data }, { on := 19, ground := Ground.data }, { on := 17, ground := Ground.chain }, { on := 14, ground := Ground.guard }], guard := some (14, true) }) rfl (fun K hK => ?_) AllReadyH.nil
  go_simp
  (go_at_call 23; (with_reducible refine (add_any (HB.out.ext (HEW.out.trans (((HE1.out.trans HE2.out).trans HE3.out).trans HE4.out))) (HC.out.ext (HEW.out.trans (((HE1.out.trans HE2.out).trans HE3.out).trans HE4.out))) (HT.out.ext (HEW.out.trans (((HE1.out.trans HE2.out).trans HE3.out).trans HE4.out)))).mono ?_); rw [Ebc.out]; rintro e w5 ⟨A3, c3, rfl, hon, hx⟩; have HE5 := Lib.hid hx; have HI3 := Lib.hid (Dy.at_ hon Wbc.out.1 Wbc.out.2); clear hon; clear hx hk; have hk := HS.out _ ((((HE1.out.trans HE2.out).trans HE3.out).trans HE4.out).trans HE5.out))
  (try go_wp2_with fail)
  refine hK.out _ _ hk (fun hHeld' => ?_)
  clear hK K hHeld
  have hHeld := hHeld'
  clear hHeld'
  (try simp only [Act.put, List.setIfInBounds_toArray, List.set_cons_zero, List.set_cons_succ])
  refine wpAnyH_ready (rs := [21]) (by kernel_rfl) (by simp) ?_
  refine AllReadyH.cons (o := { dst := some 43, op := Op.call { callee := Callee.value (Operand.func 20), args := #[Operand.tmp 39, Operand.tmp 42], argTypes := #[24, 24] }, type := 3, pos := "law.go:85", after := #[{ on := 17, ground := Ground.data }, { on := 20, ground := Ground.data }, { on := 20, ground := Ground.chain }, { on := 14, ground := Ground.guard }], guard := some (14, true) }) rfl (fun K hK => ?_) AllReadyH.nil
  go_simp
  (go_at_call 20; (with_reducible refine (cmp_any (HI2.out _ HE5.out) (HI3.out _ (Ext.refl _))).mono ?_); rw [C3.out]; rintro e w6 ⟨rfl, hx⟩; have HE6 := Lib.hid hx; clear hx hk; have hk := HS.out _ (((((HE1.out.trans HE2.out).trans HE3.out).trans HE4.out).trans HE5.out).trans HE6.out))
  (try go_wp2_with fail)
  refine hK.out _ _ hk (fun hHeld' => ?_)
  clear hK K hHeld
  have hHeld := hHeld'
  clear hHeld'
  (try simp only [Act.put, List.setIfInBounds_toArray, List.set_cons_zero, List.set_cons_succ])
  refine wpAnyH_take (i := 23) (oi := { dst := some 45, op := Op.binOp BinOp.eql 3 (Operand.tmp 43) (Operand.tmp 44) 3, type := 4, pos := "law.go:85", after := #[{ on := 21, ground := Ground.data }, { on := 22, ground := Ground.data }, { on := 14, ground := Ground.guard }], guard := some (14, true) }) (v := ?_) rfl (by kernel_rfl) (by kernel_rfl) (by kernel_rfl) (fun _ _ _ h => h) (Or.inl ⟨by rfl, ?hy⟩) hHeld ?_
  case hy => ((intro w' hSw; (try dsimp only at hSw); go_simp); (try with_reducible rfl))
  (try simp only [Act.put, List.setIfInBounds_toArray, List.set_cons_zero, List.set_cons_succ])
  refine wpAnyH_take (i := 24) (oi := { dst := some 46, op := Op.pick (Operand.tmp 36) (Operand.tmp 45) (Operand.const (Value.bool false)), type := 4, pos := "law.go:85", after := #[{ on := 14, ground := Ground.data }, { on := 23, ground := Ground.data }], guard := none }) (v := ?_) rfl (by kernel_rfl) (by kernel_rfl) (by kernel_rfl) (fun _ _ _ h => h) (Or.inl ⟨by rfl, ?hy⟩) hHeld ?_
  case hy => ((intro w' hSw; (try dsimp only at hSw); go_simp); (try with_reducible rfl))
  (try simp only [Act.put, List.setIfInBounds_toArray, List.set_cons_zero, List.set_cons_succ])
  refine wpAnyH_take (i := 25) (oi := { dst := some 47, op := Op.move (Operand.tmp 46), type := 4, pos := "law.go:85", after := #[{ on := 24, ground := Ground.data }, { on := 21, ground := Ground.chain }], guard := none }) (v := ?_) rfl (by kernel_rfl) (by kernel_rfl) (by kernel_rfl) (fun _ _ _ h => h) (Or.inl ⟨by rfl, ?hy⟩) hHeld ?_
  case hy => ((intro w' hSw; (try dsimp only at hSw); go_simp); (try with_reducible rfl))
  (try simp only [Act.put, List.setIfInBounds_toArray, List.set_cons_zero, List.set_cons_succ])
  refine wpAnyH_take (i := 26) (oi := { dst := some 48, op := Op.load 24 (Operand.tmp 3), type := 24, pos := "law.go:85", after := #[{ on := 25, ground := Ground.guard }], guard := some (25, true) }) (v := ?_) rfl (by kernel_rfl) (by kernel_rfl) (by kernel_rfl) (fun _ _ _ h => h) (Or.inl ⟨by rfl, ?hy⟩) hHeld ?_
  case hy => ((intro w' hSw; (try dsimp only at hSw); go_simp); (try with_reducible rfl))
  (try simp only [Act.put, List.setIfInBounds_toArray, List.set_cons_zero, List.set_cons_succ])
  refine wpAnyH_take (i := 27) (oi := { dst := some 49, op := Op.load 24 (Operand.tmp 5), type := 24, pos := "law.go:85", after := #[{ on := 25, ground := Ground.guard }], guard := some (25, true) }) (v := ?_) rfl (by kernel_rfl) (by kernel_rfl) (by kernel_rfl) (fun _ _ _ h => h) (Or.inl ⟨by rfl, ?hy⟩) hHeld ?_
  case hy => ((intro w' hSw; (try dsimp only at hSw); go_simp); (try with_reducible rfl))
  (try simp only [Act.put, List.setIfInBounds_toArray, List.set_cons_zero, List.set_cons_succ])
  refine wpAnyH_take (i := 29) (oi := { dst := some 51, op := Op.load 24 (Operand.tmp 4), type := 24, pos := "law.go:85", after := #[{ on := 25, ground := Ground.guard }], guard := some (25, true) }) (v := ?_) rfl (by kernel_rfl) (by kernel_rfl) (by kernel_rfl) (fun _ _ _ h => h) (Or.inl ⟨by rfl, ?hy⟩) hHeld ?_
  case hy => ((intro w' hSw; (try dsimp only at hSw); go_simp); (try with_reducible rfl))
  (try simp only [Act.put, List.setIfInBounds_toArray, List.set_cons_zero, List.set_cons_succ])
  refine wpAnyH_take (i := 30) (oi := { dst := some 52, op := Op.load 24 (Operand.tmp 5), type := 24, pos := "law.go:85", after := #[{ on := 25, ground := Ground.guard }], guard := some (25, true) }) (v := ?_) rfl (by kernel_rfl) (by kernel_rfl) (by kernel_rfl) (fun _ _ _ h => h) (Or.inl ⟨by rfl, ?hy⟩) hHeld ?_
  case hy => ((intro w' hSw; (try dsimp only at hSw); go_simp); (try with_reducible rfl))
  (try simp only [Act.put, List.setIfInBounds_toArray, List.set_cons_zero, List.set_cons_succ])
  refine wpAnyH_take (i := 33) (oi := { dst := some 55, op := Op.move (Operand.tmp 7), type := 3, pos := "law.go:85", after := #[{ on := 25, ground := Ground.guard }], guard := some (25, true) }) (v := ?_) rfl (by kernel_rfl) (by kernel_rfl) (by kernel_rfl) (fun _ _ _ h => h) (Or.inl ⟨by rfl, ?hy⟩) hHeld ?_
  case hy => ((intro w' hSw; (try dsimp only at hSw); go_simp); (try with_reducible rfl))
  (try simp only [Act.put, List.setIfInBounds_toArray, List.set_cons_zero, List.set_cons_succ])
  refine wpAnyH_take (i := 34) (oi := { dst := some 56, op := Op.load 24 (Operand.tmp 5), type := 24, pos := "law.go:85", after := #[{ on := 25, ground := Ground.guard }], guard := some (25, true) }) (v := ?_) rfl (by kernel_rfl) (by kernel_rfl) (by kernel_rfl) (fun _ _ _ h => h) (Or.inl ⟨by rfl, ?hy⟩) hHeld ?_
  case hy => ((intro w' hSw; (try dsimp only at hSw); go_simp); (try with_reducible rfl))
  (try simp only [Act.put, List.setIfInBounds_toArray, List.set_cons_zero, List.set_cons_succ])
  refine wpAnyH_ready (rs := [28]) (by kernel_rfl) (by simp) ?_
  refine AllReadyH.cons (o := { dst := some 50, op := Op.call { callee := Callee.value (Operand.func 25), args := #[Operand.tmp 48, Operand.tmp 49], argTypes := #[24, 24] }, type := 24, pos := "law.go:85", after := #[{ on := 26, ground := Ground.data }, { on := 27, ground := Ground.data }, { on := 25, ground := Ground.chain }, { on := 25, ground := Ground.guard }], guard := some (25, true) }) rfl (fun K hK => ?_) AllReadyH.nil
  go_simp
  (go_at_call 25; (with_reducible refine (mul_any (HA.out.ext (HEW.out.trans (((((HE1.out.trans HE2.out).trans HE3.out).trans HE4.out).trans HE5.out).trans HE6.out))) (HC.out.ext (HEW.out.trans (((((HE1.out.trans HE2.out).trans HE3.out).trans HE4.out).trans HE5.out).trans HE6.out))) (HT.out.ext (HEW.out.trans (((((HE1.out.trans HE2.out).trans HE3.out).trans HE4.out).trans HE5.out).trans HE6.out)))).mono ?_); rw [Mac.out]; rintro e w7 ⟨A4, c4, rfl, hon, hx⟩; have HE7 := Lib.hid hx; have HI4 := Lib.hid (Dy.at_ hon Wmac.out.1 Wmac.out.2); clear hon; clear hx hk; have hk := HS.out _ ((((((HE1.out.trans HE2.out).trans HE3.out).trans HE4.out).trans HE5.out).trans HE6.out).trans HE7.out))
  (try go_wp2_with fail)
  refine hK.out _ _ hk (fun hHeld' => ?_)
  clear hK K hHeld
  have hHeld := hHeld'
  clear hHeld'
  (try simp only [Act.put, List.setIfInBounds_toArray, List.set_cons_zero, List.set_cons_succ])
  refine wpAnyH_ready (rs := [31]) (by kernel_rfl) (by simp) ?_
  refine AllReadyH.cons (o := { dst := some 53, op := Op.call { callee := Callee.value (Operand.func 25), args := #[Operand.tmp 51, Operand.tmp 52], argTypes := #[24, 24] }, type := 24, pos := "law.go:85", after := #[{ on := 29, ground := Ground.data }, { on := 30, ground := Ground.data }, { on := 28, ground := Ground.chain }, { on := 25, ground := Ground.guard }], guard := some (25, true) }) rfl (fun K hK => ?_) AllReadyH.nil
  go_simp
  (go_at_call 25; (with_reducible refine (mul_any (HB.out.ext (HEW.out.trans ((((((HE1.out.trans HE2.out).trans HE3.out).trans HE4.out).trans HE5.out).trans HE6.out).trans HE7.out))) (HC.out.ext (HEW.out.trans ((((((HE1.out.trans HE2.out).trans HE3.out).trans HE4.out).trans HE5.out).trans HE6.out).trans HE7.out))) (HT.out.ext (HEW.out.trans ((((((HE1.out.trans HE2.out).trans HE3.out).trans HE4.out).trans HE5.out).trans HE6.out).trans HE7.out)))).mono ?_); rw [Mbc.out]; rintro e w8 ⟨A5, c5, rfl, hon, hx⟩; have HE8 := Lib.hid hx; have HI5 := Lib.hid (Dy.at_ hon Wmbc.out.1 Wmbc.out.2); clear hon; clear hx hk; have hk := HS.out _ (((((((HE1.out.trans HE2.out).trans HE3.out).trans HE4.out).trans HE5.out).trans HE6.out).trans HE7.out).trans HE8.out))
  (try go_wp2_with fail)
  refine hK.out _ _ hk (fun hHeld' => ?_)
  clear hK K hHeld
  have hHeld := hHeld'
  clear hHeld'
  (try simp only [Act.put, List.setIfInBounds_toArray, List.set_cons_zero, List.set_cons_succ])
  refine wpAnyH_ready (rs := [32]) (by kernel_rfl) (by simp) ?_
  refine AllReadyH.cons (o := { dst := some 54, op := Op.call { callee := Callee.value (Operand.func 20), args := #[Operand.tmp 50, Operand.tmp 53], argTypes := #[24, 24] }, type := 3, pos := "law.go:85", after := #[{ on := 28, ground := Ground.data }, { on := 31, ground := Ground.data }, { on := 31, ground := Ground.chain }, { on := 25, ground := Ground.guard }], guard := some (25, true) }) rfl (fun K hK => ?_) AllReadyH.nil
  go_simp
  (go_at_call 20; (with_reducible refine (cmp_any (HI4.out _ HE8.out) (HI5.out _ (Ext.refl _))).mono ?_); rw [C4.out]; rintro e w9 ⟨rfl, hx⟩; have HE9 := Lib.hid hx; clear hx hk; have hk := HS.out _ ((((((((HE1.out.trans HE2.out).trans HE3.out).trans HE4.out).trans HE5.out).trans HE6.out).trans HE7.out).trans HE8.out).trans HE9.out))
  (try go_wp2_with fail)
  refine hK.out _ _ hk (fun hHeld' => ?_)
  clear hK K hHeld
  have hHeld := hHeld'
  clear hHeld'
  (try simp only [Act.put, List.setIfInBounds_toArray, List.set_cons_zero, List.set_cons_succ])
  refine wpAnyH_ready (rs := [35]) (by kernel_rfl) (by simp) ?_
  refine AllReadyH.cons (o := { dst := some 57, op := Op.call { callee := Callee.value (Operand.func 19), args := #[Operand.tmp 56], argTypes := #[24] }, type := 3, pos := "law.go:85", after := #[{ on := 34, ground := Ground.data }, { on := 32, ground := Ground.chain }, { on := 25, ground := Ground.guard }], guard := some (25, true) }) rfl (fun K hK => ?_) AllReadyH.nil
  go_simp
  (go_at_call 19; (with_reducible refine (sign_any (HC.out.ext (HEW.out.trans ((((((((HE1.out.trans HE2.out).trans HE3.out).trans HE4.out).trans HE5.out).trans HE6.out).trans HE7.out).trans HE8.out).trans HE9.out)))).mono ?_); rw [C5.out]; rintro e w10 ⟨rfl, hx⟩; have HE10 := Lib.hid hx; clear hx hk; have hk := HS.out _ (((((((((HE1.out.trans HE2.out).trans HE3.out).trans HE4.out).trans HE5.out).trans HE6.out).trans HE7.out).trans HE8.out).trans HE9.out).trans HE10.out))
  (try go_wp2_with fail)
  refine hK.out _ _ hk (fun hHeld' => ?_)
  clear hK K hHeld
  have hHeld := hHeld'
  clear hHeld'
  (try simp only [Act.put, List.setIfInBounds_toArray, List.set_cons_zero, List.set_cons_succ])
  refine wpAnyH_take (i := 36) (oi := { dst := some 58, op := Op.binOp BinOp.mul 3 (Operand.tmp 55) (Operand.tmp 57) 3, type := 3, pos := "law.go:85", after := #[{ on := 33, ground := Ground.data }, { on := 35, ground := Ground.data }, { on := 25, ground := Ground.guard }], guard := some (25, true) }) (v := ?_) rfl (by kernel_rfl) (by kernel_rfl) (by kernel_rfl) (fun _ _ _ h => h) (Or.inl ⟨by rfl, ?hy⟩) hHeld ?_
  case hy => ((intro w' hSw; (try dsimp only at hSw); go_simp); (try with_reducible rfl))
  (try simp only [Act.put, List.setIfInBounds_toArray, List.set_cons_zero, List.set_cons_succ])
  refine wpAnyH_take (i := 37) (oi := { dst := some 59, op := Op.binOp BinOp.eql 3 (Operand.tmp 54) (Operand.tmp 58) 3, type := 4, pos := "law.go:85", after := #[{ on := 32, ground := Ground.data }, { on := 36, ground := Ground.data }, { on := 25, ground := Ground.guard }], guard := some (25, true) }) (v := ?_) rfl (by kernel_rfl) (by kernel_rfl) (by kernel_rfl) (fun _ _ _ h => h) (Or.inl ⟨by rfl, ?hy⟩) hHeld ?_
  case hy => ((intro w' hSw; (try dsimp only at hSw); go_simp); (try with_reducible rfl))
  (try simp only [Act.put, List.setIfInBounds_toArray, List.set_cons_zero, List.set_cons_succ])
  refine wpAnyH_take (i := 38) (oi := { dst := some 60, op := Op.pick (Operand.tmp 47) (Operand.tmp 59) (Operand.const (Value.bool false)), type := 4, pos := "law.go:85", after := #[{ on := 25, ground := Ground.data }, { on := 37, ground := Ground.data }], guard := none }) (v := ?_) rfl (by kernel_rfl) (by kernel_rfl) (by kernel_rfl) (fun _ _ _ h => h) (Or.inl ⟨by rfl, ?hy⟩) hHeld ?_
  case hy => ((intro w' hSw; (try dsimp only at hSw); go_simp); (try with_reducible rfl))
  (try simp only [Act.put, List.setIfInBounds_toArray, List.set_cons_zero, List.set_cons_succ])
  refine wpAnyH_take (i := 39) (oi := { dst := some 61, op := Op.move (Operand.tmp 60), type := 4, pos := "law.go:85", after := #[{ on := 38, ground := Ground.data }, { on := 35, ground := Ground.chain }], guard := none }) (v := ?_) rfl (by kernel_rfl) (by kernel_rfl) (by kernel_rfl) (fun _ _ _ h => h) (Or.inl ⟨by rfl, ?hy⟩) hHeld ?_
  case hy => ((intro w' hSw; (try dsimp only at hSw); go_simp); (try with_reducible rfl))
  (try simp only [Act.put, List.setIfInBounds_toArray, List.set_cons_zero, List.set_cons_succ])
  refine wpAnyH_take (i := 40) (oi := { dst := some 62, op := Op.move (Operand.tmp 7), type := 3, pos := "law.go:85", after := #[{ on := 39, ground := Ground.guard }], guard := some (39, true) }) (v := ?_) rfl (by kernel_rfl) (by kernel_rfl) (by kernel_rfl) (fun _ _ _ h => h) (Or.inl ⟨by rfl, ?hy⟩) hHeld ?_
  case hy => ((intro w' hSw; (try dsimp only at hSw); go_simp); (try with_reducible rfl))
  (try simp only [Act.put, List.setIfInBounds_toArray, List.set_cons_zero, List.set_cons_succ])
  refine wpAnyH_take (i := 41) (oi := { dst := some 63, op := Op.binOp BinOp.neq 3 (Operand.tmp 62) (Operand.const (Value.int IntKind.i64 0)) 3, type := 4, pos := "law.go:85", after := #[{ on := 40, ground := Ground.data }, { on := 39, ground := Ground.guard }], guard := some (39, true) }) (v := ?_) rfl (by kernel_rfl) (by kernel_rfl) (by kernel_rfl) (fun _ _ _ h => h) (Or.inl ⟨by rfl, ?hy⟩) hHeld ?_
  case hy => ((intro w' hSw; (try dsimp only at hSw); go_simp); (try with_reducible rfl))
  (try simp only [Act.put, List.setIfInBounds_toArray, List.set_cons_zero, List.set_cons_succ])
  refine wpAnyH_take (i := 42) (oi := { dst := some 64, op := Op.move (Operand.tmp 63), type := 4, pos := "law.go:85", after := #[{ on := 41, ground := Ground.data }, { on := 39, ground := Ground.chain }, { on := 39, ground := Ground.guard }], guard := some (39, true) }) (v := ?_) rfl (by kernel_rfl) (by kernel_rfl) (by kernel_rfl) (fun _ _ _ h => h) (Or.inl ⟨by rfl, ?hy⟩) hHeld ?_
  case hy => ((intro w' hSw; (try dsimp only at hSw); go_simp); (try with_reducible rfl))
  (try simp only [Act.put, List.setIfInBounds_toArray, List.set_cons_zero, List.set_cons_succ])
  refine wpAnyH_take (i := 43) (oi := { dst := some 65, op := Op.load 24 (Operand.tmp 3), type := 24, pos := "law.go:85", after := #[{ on := 42, ground := Ground.guard }], guard := some (42, false) }) (v := undef) rfl (by kernel_rfl) (by kernel_rfl) (by kernel_rfl) (fun _ _ _ h => h) (Or.inr ⟨by rfl, rfl⟩) hHeld ?_
  (try simp only [Act.put, List.setIfInBounds_toArray, List.set_cons_zero, List.set_cons_succ])
  refine wpAnyH_take (i := 45) (oi := { dst := some 67, op := Op.load 24 (Operand.tmp 4), type := 24, pos := "law.go:85", after := #[{ on := 42, ground := Ground.guard }], guard := some (42, false) }) (v := undef) rfl (by kernel_rfl) (by kernel_rfl) (by kernel_rfl) (fun _ _ _ h => h) (Or.inr ⟨by rfl, rfl⟩) hHeld ?_
  (try simp only [Act.put, List.setIfInBounds_toArray, List.set_cons_zero, List.set_cons_succ])
  refine wpAnyH_take (i := 44) (oi := { dst := some 66, op := Op.call { callee := Callee.value (Operand.func 28), args := #[Operand.tmp 65], argTypes := #[24] }, type := 9, pos := "law.go:86", after := #[{ on := 43, ground := Ground.data }, { on := 42, ground := Ground.chain }, { on := 42, ground := Ground.guard }], guard := some (42, false) }) (v := undef) rfl (by kernel_rfl) (by kernel_rfl) (by kernel_rfl) (fun _ _ _ h => h) (Or.inr ⟨by rfl, rfl⟩) hHeld ?_
  (try simp only [Act.put, List.setIfInBounds_toArray, List.set_cons_zero, List.set_cons_succ])
  refine wpAnyH_take (i := 46) (oi := { dst := some 68, op := Op.call { callee := Callee.value (Operand.func 28), args := #[Operand.tmp 67], argTypes := #[24] }, type := 9, pos := "law.go:86", after := #[{ on := 45, ground := Ground.data }, { on := 44, ground := Ground.chain }, { on := 42, ground := Ground.guard }], guard := some (42, false) }) (v := undef) rfl (by kernel_rfl) (by kernel_rfl) (by kernel_rfl) (fun _ _ _ h => h) (Or.inr ⟨by rfl, rfl⟩) hHeld ?_
  (try simp only [Act.put, List.setIfInBounds_toArray, List.set_cons_zero, List.set_cons_succ])
  refine wpAnyH_take (i := 47) (oi := { dst := some 69, op := Op.binOp BinOp.eql 9 (Operand.tmp 66) (Operand.tmp 68) 9, type := 4, pos := "law.go:85", after := #[{ on := 44, ground := Ground.data }, { on := 46, ground := Ground.data }, { on := 42, ground := Ground.guard }], guard := some (42, false) }) (v := undef) rfl (by kernel_rfl) (by kernel_rfl) (by kernel_rfl) (fun _ _ _ h => h) (Or.inr ⟨by rfl, rfl⟩) hHeld ?_
  (try simp only [Act.put, List.setIfInBounds_toArray, List.set_cons_zero, List.set_cons_succ])
  refine wpAnyH_take (i := 48) (oi := { dst := some 70, op := Op.pick (Operand.tmp 64) (Operand.const (Value.bool true)) (Operand.tmp 69), type := 4, pos := "law.go:85", after := #[{ on := 42, ground := Ground.data }, { on := 47, ground := Ground.data }, { on := 39, ground := Ground.guard }], guard := some (39, true) }) (v := ?_) rfl (by kernel_rfl) (by kernel_rfl) (by kernel_rfl) (fun _ _ _ h => h) (Or.inl ⟨by rfl, ?hy⟩) hHeld ?_
  case hy => ((intro w' hSw; (try dsimp only at hSw); go_simp); (try with_reducible rfl))
  (try simp only [Act.put, List.setIfInBounds_toArray, List.set_cons_zero, List.set_cons_succ])
  refine wpAnyH_take (i := 49) (oi := { dst := some 71, op := Op.pick (Operand.tmp 61) (Operand.tmp 70) (Operand.const (Value.bool false)), type := 4, pos := "law.go:85", after := #[{ on := 39, ground := Ground.data }, { on := 48, ground := Ground.data }], guard := none }) (v := ?_) rfl (by kernel_rfl) (by kernel_rfl) (by kernel_rfl) (fun _ _ _ h => h) (Or.inl ⟨by rfl, ?hy⟩) hHeld ?_
  case hy => ((intro w' hSw; (try dsimp only at hSw); go_simp); (try with_reducible rfl))
  (try simp only [Act.put, List.setIfInBounds_toArray, List.set_cons_zero, List.set_cons_succ])
  refine wpAnyH_take (i := 50) (oi := { dst := some 72, op := Op.move (Operand.tmp 71), type := 4, pos := "law.go:85", after := #[{ on := 49, ground := Ground.data }, { on := 46, ground := Ground.chain }], guard := none }) (v := ?_) rfl (by kernel_rfl) (by kernel_rfl) (by kernel_rfl) (fun _ _ _ h => h) (Or.inl ⟨by rfl, ?hy⟩) hHeld ?_
  case hy => ((intro w' hSw; (try dsimp only at hSw); go_simp); (try with_reducible rfl))
  (try simp only [Act.put, List.setIfInBounds_toArray, List.set_cons_zero, List.set_cons_succ])
  refine wpAnyH_take (i := 51) (oi := { dst := some 73, op := Op.load 24 (Operand.tmp 3), type := 24, pos := "law.go:85", after := #[{ on := 50, ground := Ground.guard }], guard := some (50, true) }) (v := ?_) rfl (by kernel_rfl) (by kernel_rfl) (by kernel_rfl) (fun _ _ _ h => h) (Or.inl ⟨by rfl, ?hy⟩) hHeld ?_
  case hy => ((intro w' hSw; (try dsimp only at hSw); go_simp); (try with_reducible rfl))
  (try simp only [Act.put, List.setIfInBounds_toArray, List.set_cons_zero, List.set_cons_succ])
  refine wpAnyH_take (i := 52) (oi := { dst := some 74, op := Op.load 24 (Operand.tmp 4), type := 24, pos := "law.go:85", after := #[{ on := 50, ground := Ground.guard }], guard := some (50, true) }) (v := ?_) rfl (by kernel_rfl) (by kernel_rfl) (by kernel_rfl) (fun _ _ _ h => h) (Or.inl ⟨by rfl, ?hy⟩) hHeld ?_
  case hy => ((intro w' hSw; (try dsimp only at hSw); go_simp); (try with_reducible rfl))
  (try simp only [Act.put, List.setIfInBounds_toArray, List.set_cons_zero, List.set_cons_succ])
  refine wpAnyH_take (i := 54) (oi := { dst := some 76, op := Op.load 24 (Operand.tmp 3), type := 24, pos := "law.go:85", after := #[{ on := 50, ground := Ground.guard }], guard := some (50, true) }) (v := ?_) rfl (by kernel_rfl) (by kernel_rfl) (by kernel_rfl) (fun _ _ _ h => h) (Or.inl ⟨by rfl, ?hy⟩) hHeld ?_
  case hy => ((intro w' hSw; (try dsimp only at hSw); go_simp); (try with_reducible rfl))
  (try simp only [Act.put, List.setIfInBounds_toArray, List.set_cons_zero, List.set_cons_succ])
  refine wpAnyH_take (i := 55) (oi := { dst := some 77, op := Op.load 24 (Operand.tmp 4), type := 24, pos := "law.go:85", after := #[{ on := 50, ground := Ground.guard }], guard := some (50, true) }) (v := ?_) rfl (by kernel_rfl) (by kernel_rfl) (by kernel_rfl) (fun _ _ _ h => h) (Or.inl ⟨by rfl, ?hy⟩) hHeld ?_
  case hy => ((intro w' hSw; (try dsimp only at hSw); go_simp); (try with_reducible rfl))
  (try simp only [Act.put, List.setIfInBounds_toArray, List.set_cons_zero, List.set_cons_succ])
  refine wpAnyH_take (i := 58) (oi := { dst := some 80, op := Op.load 24 (Operand.tmp 3), type := 24, pos := "law.go:85", after := #[{ on := 50, ground := Ground.guard }], guard := some (50, true) }) (v := ?_) rfl (by kernel_rfl) (by kernel_rfl) (by kernel_rfl) (fun _ _ _ h => h) (Or.inl ⟨by rfl, ?hy⟩) hHeld ?_
  case hy => ((intro w' hSw; (try dsimp only at hSw); go_simp); (try with_reducible rfl))
  (try simp only [Act.put, List.setIfInBounds_toArray, List.set_cons_zero, List.set_cons_succ])
  refine wpAnyH_take (i := 59) (oi := { dst := some 81, op := Op.load 24 (Operand.tmp 4), type := 24, pos := "law.go:85", after := #[{ on := 50, ground := Ground.guard }], guard := some (50, true) }) (v := ?_) rfl (by kernel_rfl) (by kernel_rfl) (by kernel_rfl) (fun _ _ _ h => h) (Or.inl ⟨by rfl, ?hy⟩) hHeld ?_
  case hy => ((intro w' hSw; (try dsimp only at hSw); go_simp); (try with_reducible rfl))
  (try simp only [Act.put, List.setIfInBounds_toArray, List.set_cons_zero, List.set_cons_succ])
  refine wpAnyH_ready (rs := [53]) (by kernel_rfl) (by simp) ?_
  refine AllReadyH.cons (o := { dst := some 75, op := Op.call { callee := Callee.value (Operand.func 21), args := #[Operand.tmp 73, Operand.tmp 74], argTypes := #[24, 24] }, type := 24, pos := "law.go:86", after := #[{ on := 51, ground := Ground.data }, { on := 52, ground := Ground.data }, { on := 50, ground := Ground.chain }, { on := 50, ground := Ground.guard }], guard := some (50, true) }) rfl (fun K hK => ?_) AllReadyH.nil
  go_simp
  (go_at_call 21; (with_reducible refine (min_any (HA.out.ext (HEW.out.trans (((((((((HE1.out.trans HE2.out).trans HE3.out).trans HE4.out).trans HE5.out).trans HE6.out).trans HE7.out).trans HE8.out).trans HE9.out).trans HE10.out))) (HB.out.ext (HEW.out.trans (((((((((HE1.out.trans HE2.out).trans HE3.out).trans HE4.out).trans HE5.out).trans HE6.out).trans HE7.out).trans HE8.out).trans HE9.out).trans HE10.out))) (HT.out.ext (HEW.out.trans (((((((((HE1.out.trans HE2.out).trans HE3.out).trans HE4.out).trans HE5.out).trans HE6.out).trans HE7.out).trans HE8.out).trans HE9.out).trans HE10.out)))).mono ?_); rw [Emi.out]; rintro e w11 ⟨A6, c6, rfl, hon, hx⟩; have HE11 := Lib.hid hx; have HI6 := Lib.hid (Dy.at_ hon Wmi.out.1 Wmi.out.2); clear hon; clear hx hk; have hk := HS.out _ ((((((((((HE1.out.trans HE2.out).trans HE3.out).trans HE4.out).trans HE5.out).trans HE6.out).trans HE7.out).trans HE8.out).trans HE9.out).trans HE10.out).trans HE11.out))
  (try go_wp2_with fail)
  refine hK.out _ _ hk (fun hHeld' => ?_)
  clear hK K hHeld
  have hHeld := hHeld'
  clear hHeld'
  (try simp only [Act.put, List.setIfInBounds_toArray, List.set_cons_zero, List.set_cons_succ])
  refine wpAnyH_ready (rs := [56]) (by kernel_rfl) (by simp) ?_
  refine AllReadyH.cons (o := { dst := some 78, op := Op.call { callee := Callee.value (Operand.func 22), args := #[Operand.tmp 76, Operand.tmp 77], argTypes := #[24, 24] }, type := 24, pos := "law.go:86", after := #[{ on := 54, ground := Ground.data }, { on := 55, ground := Ground.data }, { on := 53, ground := Ground.chain }, { on := 50, ground := Ground.guard }], guard := some (50, true) }) rfl (fun K hK => ?_) AllReadyH.nil
  go_simp
  (go_at_call 22; (with_reducible refine (max_any (HA.out.ext (HEW.out.trans ((((((((((HE1.out.trans HE2.out).trans HE3.out).trans HE4.out).trans HE5.out).trans HE6.out).trans HE7.out).trans HE8.out).trans HE9.out).trans HE10.out).trans HE11.out))) (HB.out.ext (HEW.out.trans ((((((((((HE1.out.trans HE2.out).trans HE3.out).trans HE4.out).trans HE5.out).trans HE6.out).trans HE7.out).trans HE8.out).trans HE9.out).trans HE10.out).trans HE11.out))) (HT.out.ext (HEW.out.trans ((((((((((HE1.out.trans HE2.out).trans HE3.out).trans HE4.out).trans HE5.out).trans HE6.out).trans HE7.out).trans HE8.out).trans HE9.out).trans HE10.out).trans HE11.out)))).mono ?_); rw [Ema.out]; rintro e w12 ⟨A7, c7, rfl, hon, hx⟩; have HE12 := Lib.hid hx; have HI7 := Lib.hid (Dy.at_ hon Wma.out.1 Wma.out.2); clear hon; clear hx hk; have hk := HS.out _ (((((((((((HE1.out.trans HE2.out).trans HE3.out).trans HE4.out).trans HE5.out).trans HE6.out).trans HE7.out).trans HE8.out).trans HE9.out).trans HE10.out).trans HE11.out).trans HE12.out))
  (try go_wp2_with fail)
  refine hK.out _ _ hk (fun hHeld' => ?_)
  clear hK K hHeld
  have hHeld := hHeld'
  clear hHeld'
  (try simp only [Act.put, List.setIfInBounds_toArray, List.set_cons_zero, List.set_cons_succ])
  refine wpAnyH_ready (rs := [57]) (by kernel_rfl) (by simp) ?_
  refine AllReadyH.cons (o := { dst := some 79, op := Op.call { callee := Callee.value (Operand.func 23), args := #[Operand.tmp 75, Operand.tmp 78], argTypes := #[24, 24] }, type := 24, pos := "law.go:86", after := #[{ on := 53, ground := Ground.data }, { on := 56, ground := Ground.data }, { on := 56, ground := Ground.chain }, { on := 50, ground := Ground.guard }], guard := some (50, true) }) rfl (fun K hK => ?_) AllReadyH.nil
  go_simp
  (go_at_call 23; (with_reducible refine (add_any (HI6.out _ HE12.out) (HI7.out _ (Ext.refl _)) (HT.out.ext (HEW.out.trans (((((((((((HE1.out.trans HE2.out).trans HE3.out).trans HE4.out).trans HE5.out).trans HE6.out).trans HE7.out).trans HE8.out).trans HE9.out).trans HE10.out).trans HE11.out).trans HE12.out)))).mono ?_); rw [Emm.out]; rintro e w13 ⟨A8, c8, rfl, hon, hx⟩; have HE13 := Lib.hid hx; have HI8 := Lib.hid (Dy.at_ hon Wab.out.1 Wab.out.2); clear hon; clear hx hk; have hk := HS.out _ ((((((((((((HE1.out.trans HE2.out).trans HE3.out).trans HE4.out).trans HE5.out).trans HE6.out).trans HE7.out).trans HE8.out).trans HE9.out).trans HE10.out).trans HE11.out).trans HE12.out).trans HE13.out))
  (try go_wp2_with fail)
  refine hK.out _ _ hk (fun hHeld' => ?_)
  clear hK K hHeld
  have hHeld := hHeld'
  clear hHeld'
  (try simp only [Act.put, List.setIfInBounds_toArray, List.set_cons_zero, List.set_cons_succ])
  refine wpAnyH_ready (rs := [60]) (by kernel_rfl) (by simp) ?_
  refine AllReadyH.cons (o := { dst := some 82, op := Op.call { callee := Callee.value (Operand.func 23), args := #[Operand.tmp 80, Operand.tmp 81], argTypes := #[24, 24] }, type := 24, pos := "law.go:86", after := #[{ on := 58, ground := Ground.data }, { on := 59, ground := Ground.data }, { on := 57, ground := Ground.chain }, { on := 50, ground := Ground.guard }], guard := some (50, true) }) rfl (fun K hK => ?_) AllReadyH.nil
  go_simp
  (go_at_call 23; (with_reducible refine (add_any (HA.out.ext (HEW.out.trans ((((((((((((HE1.out.trans HE2.out).trans HE3.out).trans HE4.out).trans HE5.out).trans HE6.out).trans HE7.out).trans HE8.out).trans HE9.out).trans HE10.out).trans HE11.out).trans HE12.out).trans HE13.out))) (HB.out.ext (HEW.out.trans ((((((((((((HE1.out.trans HE2.out).trans HE3.out).trans HE4.out).trans HE5.out).trans HE6.out).trans HE7.out).trans HE8.out).trans HE9.out).trans HE10.out).trans HE11.out).trans HE12.out).trans HE13.out))) (HT.out.ext (HEW.out.trans ((((((((((((HE1.out.trans HE2.out).trans HE3.out).trans HE4.out).trans HE5.out).trans HE6.out).trans HE7.out).trans HE8.out).trans HE9.out).trans HE10.out).trans HE11.out).trans HE12.out).trans HE13.out)))).mono ?_); rw [Eab.out]; rintro e w14 ⟨A9, c9, rfl, hon, hx⟩; have HE14 := Lib.hid hx; have HI9 := Lib.hid (Dy.at_ hon Wab.out.1 Wab.out.2); clear hon; clear hx hk; have hk := HS.out _ (((((((((((((HE1.out.trans HE2.out).trans HE3.out).trans HE4.out).trans HE5.out).trans HE6.out).trans HE7.out).trans HE8.out).trans HE9.out).trans HE10.out).trans HE11.out).trans HE12.out).trans HE13.out).trans HE14.out))
  (try go_wp2_with fail)
  refine hK.out _ _ hk (fun hHeld' => ?_)
  clear hK K hHeld
  have hHeld := hHeld'
  clear hHeld'
  (try simp only [Act.put, List.setIfInBounds_toArray, List.set_cons_zero, List.set_cons_succ])
  refine wpAnyH_ready (rs := [61]) (by kernel_rfl) (by simp) ?_
  refine AllReadyH.cons (o := { dst := some 83, op := Op.call { callee := Callee.value (Operand.func 16), args := #[Operand.tmp 79, Operand.tmp 82], argTypes := #[24, 24] }, type := 4, pos := "law.go:86", after := #[{ on := 57, ground := Ground.data }, { on := 60, ground := Ground.data }, { on := 60, ground := Ground.chain }, { on := 50, ground := Ground.guard }], guard := some (50, true) }) rfl (fun K hK => ?_) AllReadyH.nil
  go_simp
  (go_at_call 16; (with_reducible refine (same_true (d := ab) (HI8.out _ HE14.out).rd (HI9.out _ (Ext.refl _)).rd Lab.out).mono ?_); rintro e w15 ⟨rfl, hx⟩; have HE15 := Lib.hid hx; clear hx hk; have hk := HS.out _ ((((((((((((((HE1.out.trans HE2.out).trans HE3.out).trans HE4.out).trans HE5.out).trans HE6.out).trans HE7.out).trans HE8.out).trans HE9.out).trans HE10.out).trans HE11.out).trans HE12.out).trans HE13.out).trans HE14.out).trans HE15.out))
  (try go_wp2_with fail)
  refine hK.out _ _ hk (fun hHeld' => ?_)
  clear hK K hHeld
  have hHeld := hHeld'
  clear hHeld'
  (try simp only [Act.put, List.setIfInBounds_toArray, List.set_cons_zero, List.set_cons_succ])
  refine wpAnyH_take (i := 62) (oi := { dst := some 84, op := Op.pick (Operand.tmp 72) (Operand.tmp 83) (Operand.const (Value.bool false)), type := 4, pos := "law.go:85", after := #[{ on := 50, ground := Ground.data }, { on := 61, ground := Ground.data }], guard := none }) (v := ?_) rfl (by kernel_rfl) (by kernel_rfl) (by kernel_rfl) (fun _ _ _ h => h) (Or.inl ⟨by rfl, ?hy⟩) hHeld ?_
  case hy => ((intro w' hSw; (try dsimp only at hSw); go_simp); (try with_reducible rfl))
  (try simp only [Act.put, List.setIfInBounds_toArray, List.set_cons_zero, List.set_cons_succ])
  refine wpAnyH_take (i := 63) (oi := { dst := some 85, op := Op.move (Operand.tmp 84), type := 4, pos := "law.go:85", after := #[{ on := 62, ground := Ground.data }, { on := 61, ground := Ground.chain }], guard := none }) (v := ?_) rfl (by kernel_rfl) (by kernel_rfl) (by kernel_rfl) (fun _ _ _ h => h) (Or.inl ⟨by rfl, ?hy⟩) hHeld ?_
  case hy => ((intro w' hSw; (try dsimp only at hSw); go_simp); (try with_reducible rfl))
  (try simp only [Act.put, List.setIfInBounds_toArray, List.set_cons_zero, List.set_cons_succ])
  refine wpAnyH_take (i := 64) (oi := { dst := some 86, op := Op.load 24 (Operand.tmp 3), type := 24, pos := "law.go:85", after := #[{ on := 63, ground := Ground.guard }], guard := some (63, true) }) (v := ?_) rfl (by kernel_rfl) (by kernel_rfl) (by kernel_rfl) (fun _ _ _ h => h) (Or.inl ⟨by rfl, ?hy⟩) hHeld ?_
  case hy => ((intro w' hSw; (try dsimp only at hSw); go_simp); (try with_reducible rfl))
  (try simp only [Act.put, List.setIfInBounds_toArray, List.set_cons_zero, List.set_cons_succ])
  refine wpAnyH_take (i := 65) (oi := { dst := some 87, op := Op.load 24 (Operand.tmp 4), type := 24, pos := "law.go:85", after := #[{ on := 63, ground := Ground.guard }], guard := some (63, true) }) (v := ?_) rfl (by kernel_rfl) (by kernel_rfl) (by kernel_rfl) (fun _ _ _ h => h) (Or.inl ⟨by rfl, ?hy⟩) hHeld ?_
  case hy => ((intro w' hSw; (try dsimp only at hSw); go_simp); (try with_reducible rfl))
  (try simp only [Act.put, List.setIfInBounds_toArray, List.set_cons_zero, List.set_cons_succ])
  refine wpAnyH_take (i := 67) (oi := { dst := some 89, op := Op.load 24 (Operand.tmp 3), type := 24, pos := "law.go:85", after := #[{ on := 63, ground := Ground.guard }], guard := some (63, true) }) (v := ?_) rfl (by kernel_rfl) (by kernel_rfl) (by kernel_rfl) (fun _ _ _ h => h) (Or.inl ⟨by rfl, ?hy⟩) hHeld ?_
  case hy => ((intro w' hSw; (try dsimp only at hSw); go_simp); (try with_reducible rfl))
  (try simp only [Act.put, List.setIfInBounds_toArray, List.set_cons_zero, List.set_cons_succ])
  refine wpAnyH_take (i := 68) (oi := { dst := some 90, op := Op.load 24 (Operand.tmp 4), type := 24, pos := "law.go:85", after := #[{ on := 63, ground := Ground.guard }], guard := some (63, true) }) (v := ?_) rfl (by kernel_rfl) (by kernel_rfl) (by kernel_rfl) (fun _ _ _ h => h) (Or.inl ⟨by rfl, ?hy⟩) hHeld ?_
  case hy => ((intro w' hSw; (try dsimp only at hSw); go_simp); (try with_reducible rfl))
  (try simp only [Act.put, List.setIfInBounds_toArray, List.set_cons_zero, List.set_cons_succ])
  refine wpAnyH_ready (rs := [66]) (by kernel_rfl) (by simp) ?_
  refine AllReadyH.cons (o := { dst := some 88, op := Op.call { callee := Callee.value (Operand.func 21), args := #[Operand.tmp 86, Operand.tmp 87], argTypes := #[24, 24] }, type := 24, pos := "law.go:86", after := #[{ on := 64, ground := Ground.data }, { on := 65, ground := Ground.data }, { on := 63, ground := Ground.chain }, { on := 63, ground := Ground.guard }], guard := some (63, true) }) rfl (fun K hK => ?_) AllReadyH.nil
  go_simp
  (go_at_call 21; (with_reducible refine (min_any (HA.out.ext (HEW.out.trans ((((((((((((((HE1.out.trans HE2.out).trans HE3.out).trans HE4.out).trans HE5.out).trans HE6.out).trans HE7.out).trans HE8.out).trans HE9.out).trans HE10.out).trans HE11.out).trans HE12.out).trans HE13.out).trans HE14.out).trans HE15.out))) (HB.out.ext (HEW.out.trans ((((((((((((((HE1.out.trans HE2.out).trans HE3.out).trans HE4.out).trans HE5.out).trans HE6.out).trans HE7.out).trans HE8.out).trans HE9.out).trans HE10.out).trans HE11.out).trans HE12.out).trans HE13.out).trans HE14.out).trans HE15.out))) (HT.out.ext (HEW.out.trans ((((((((((((((HE1.out.trans HE2.out).trans HE3.out).trans HE4.out).trans HE5.out).trans HE6.out).trans HE7.out).trans HE8.out).trans HE9.out).trans HE10.out).trans HE11.out).trans HE12.out).trans HE13.out).trans HE14.out).trans HE15.out)))).mono ?_); rw [Emi.out]; rintro e w16 ⟨A10, c10, rfl, hon, hx⟩; have HE16 := Lib.hid hx; have HI10 := Lib.hid (Dy.at_ hon Wmi.out.1 Wmi.out.2); clear hon; clear hx hk; have hk := HS.out _ (((((((((((((((HE1.out.trans HE2.out).trans HE3.out).trans HE4.out).trans HE5.out).trans HE6.out).trans HE7.out).trans HE8.out).trans HE9.out).trans HE10.out).trans HE11.out).trans HE12.out).trans HE13.out).trans HE14.out).trans HE15.out).trans HE16.out))
  (try go_wp2_with fail)
  refine hK.out _ _ hk (fun hHeld' => ?_)
  clear hK K hHeld
  have hHeld := hHeld'
  clear hHeld'
  (try simp only [Act.put, List.setIfInBounds_toArray, List.set_cons_zero, List.set_cons_succ])
  refine wpAnyH_ready (rs := [69]) (by kernel_rfl) (by simp) ?_
  refine AllReadyH.cons (o := { dst := some 91, op := Op.call { callee := Callee.value (Operand.func 22), args := #[Operand.tmp 89, Operand.tmp 90], argTypes := #[24, 24] }, type := 24, pos := "law.go:86", after := #[{ on := 67, ground := Ground.data }, { on := 68, ground := Ground.data }, { on := 66, ground := Ground.chain }, { on := 63, ground := Ground.guard }], guard := some (63, true) }) rfl (fun K hK => ?_) AllReadyH.nil
  go_simp
  (go_at_call 22; (with_reducible refine (max_any (HA.out.ext (HEW.out.trans (((((((((((((((HE1.out.trans HE2.out).trans HE3.out).trans HE4.out).trans HE5.out).trans HE6.out).trans HE7.out).trans HE8.out).trans HE9.out).trans HE10.out).trans HE11.out).trans HE12.out).trans HE13.out).trans HE14.out).trans HE15.out).trans HE16.out))) (HB.out.ext (HEW.out.trans (((((((((((((((HE1.out.trans HE2.out).trans HE3.out).trans HE4.out).trans HE5.out).trans HE6.out).trans HE7.out).trans HE8.out).trans HE9.out).trans HE10.out).trans HE11.out).trans HE12.out).trans HE13.out).trans HE14.out).trans HE15.out).trans HE16.out))) (HT.out.ext (HEW.out.trans (((((((((((((((HE1.out.trans HE2.out).trans HE3.out).trans HE4.out).trans HE5.out).trans HE6.out).trans HE7.out).trans HE8.out).trans HE9.out).trans HE10.out).trans HE11.out).trans HE12.out).trans HE13.out).trans HE14.out).trans HE15.out).trans HE16.out)))).mono ?_); rw [Ema.out]; rintro e w17 ⟨A11, c11, rfl, hon, hx⟩; have HE17 := Lib.hid hx; have HI11 := Lib.hid (Dy.at_ hon Wma.out.1 Wma.out.2); clear hon; clear hx hk; have hk := HS.out _ ((((((((((((((((HE1.out.trans HE2.out).trans HE3.out).trans HE4.out).trans HE5.out).trans HE6.out).trans HE7.out).trans HE8.out).trans HE9.out).trans HE10.out).trans HE11.out).trans HE12.out).trans HE13.out).trans HE14.out).trans HE15.out).trans HE16.out).trans HE17.out))
  (try go_wp2_with fail)
  refine hK.out _ _ hk (fun hHeld' => ?_)
  clear hK K hHeld
  have hHeld := hHeld'
  clear hHeld'
  (try simp only [Act.put, List.setIfInBounds_toArray, List.set_cons_zero, List.set_cons_succ])
  refine wpAnyH_ready (rs := [70]) (by kernel_rfl) (by simp) ?_
  refine AllReadyH.cons (o := { dst := some 92, op := Op.call { callee := Callee.value (Operand.func 20), args := #[Operand.tmp 88, Operand.tmp 91], argTypes := #[24, 24] }, type := 3, pos := "law.go:86", after := #[{ on := 66, ground := Ground.data }, { on := 69, ground := Ground.data }, { on := 69, ground := Ground.chain }, { on := 63, ground := Ground.guard }], guard := some (63, true) }) rfl (fun K hK => ?_) AllReadyH.nil
  go_simp
  (go_at_call 20; (with_reducible refine (cmp_any (HI10.out _ HE17.out) (HI11.out _ (Ext.refl _))).mono ?_); rw [C6.out]; rintro e w18 ⟨rfl, hx⟩; have HE18 := Lib.hid hx; clear hx hk; have hk := HS.out _ (((((((((((((((((HE1.out.trans HE2.out).trans HE3.out).trans HE4.out).trans HE5.out).trans HE6.out).trans HE7.out).trans HE8.out).trans HE9.out).trans HE10.out).trans HE11.out).trans HE12.out).trans HE13.out).trans HE14.out).trans HE15.out).trans HE16.out).trans HE17.out).trans HE18.out))
  (try go_wp2_with fail)
  refine hK.out _ _ hk (fun hHeld' => ?_)
  clear hK K hHeld
  have hHeld := hHeld'
  clear hHeld'
  (try simp only [Act.put, List.setIfInBounds_toArray, List.set_cons_zero, List.set_cons_succ])
  refine wpAnyH_take (i := 71) (oi := { dst := some 93, op := Op.binOp BinOp.leq 3 (Operand.tmp 92) (Operand.const (Value.int IntKind.i64 0)) 3, type := 4, pos := "law.go:85", after := #[{ on := 70, ground := Ground.data }, { on := 63, ground := Ground.guard }], guard := some (63, true) }) (v := ?_) rfl (by kernel_rfl) (by kernel_rfl) (by kernel_rfl) (fun _ _ _ h => h) (Or.inl ⟨by rfl, ?hy⟩) hHeld ?_
  case hy => ((intro w' hSw; (try dsimp only at hSw); go_simp); (try with_reducible rfl))
  (try simp only [Act.put, List.setIfInBounds_toArray, List.set_cons_zero, List.set_cons_succ])
  refine wpAnyH_take (i := 72) (oi := { dst := some 94, op := Op.pick (Operand.tmp 85) (Operand.tmp 93) (Operand.const (Value.bool false)), type := 4, pos := "law.go:85", after := #[{ on := 63, ground := Ground.data }, { on := 71, ground := Ground.data }], guard := none }) (v := ?_) rfl (by kernel_rfl) (by kernel_rfl) (by kernel_rfl) (fun _ _ _ h => h) (Or.inl ⟨by rfl, ?hy⟩) hHeld ?_
  case hy => ((intro w' hSw; (try dsimp only at hSw); go_simp); (try with_reducible rfl))
  (try simp only [Act.put, List.setIfInBounds_toArray, List.set_cons_zero, List.set_cons_succ])
  refine wpAnyH_take (i := 73) (oi := { dst := some 6, op := Op.assign (Operand.tmp 94), type := 4, pos := "law.go:85", after := ([{ on := 72, ground := Ground.data }, { on := 70, ground := Ground.chain }, { on := 0, ground := Ground.phase }, { on := 1, ground := Ground.phase }, { on := 2, ground := Ground.phase }, { on := 3, ground := Ground.phase }, { on := 4, ground := Ground.phase }, { on := 5, ground := Ground.phase }, { on := 6, ground := Ground.phase }, { on := 7, ground := Ground.phase }, { on := 8, ground := Ground.phase }, { on := 9, ground := Ground.phase }, { on := 10, ground := Ground.phase }, { on := 11, ground := Ground.phase }, { on := 12, ground := Ground.phase }, { on := 13, ground := Ground.phase }, { on := 14, ground := Ground.phase }, { on := 15, ground := Ground.phase }, { on := 16, ground := Ground.phase }, { on := 17, ground := Ground.phase }, { on := 18, ground := Ground.phase }, { on := 19, ground := Ground.phase }, { on := 20, ground := Ground.phase }, { on := 21, ground := Ground.phase }, { on := 22, ground := Ground.phase }, { on := 23, ground := Ground.phase }, { on := 24, ground := Ground.phase }, { on := 25, ground := Ground.phase }, { on := 26, ground := Ground.phase }, { on := 27, ground := Ground.phase }, { on := 28, ground := Ground.phase }, { on := 29, ground := Ground.phase }, { on := 30, ground := Ground.phase }, { on := 31, ground := Ground.phase }, { on := 32, ground := Ground.phase }, { on := 33, ground := Ground.phase }, { on := 34, ground := Ground.phase }].append [{ on := 35, ground := Ground.phase }, { on := 36, ground := Ground.phase }, { on := 37, ground := Ground.phase }, { on := 38, ground := Ground.phase }, { on := 39, ground := Ground.phase }, { on := 40, ground := Ground.phase }, { on := 41, ground := Ground.phase }, { on := 42, ground := Ground.phase }, { on := 43, ground := Ground.phase }, { on := 44, ground := Ground.phase }, { on := 45, ground := Ground.phase }, { on := 46, ground := Ground.phase }, { on := 47, ground := Ground.phase }, { on := 48, ground := Ground.phase }, { on := 49, ground := Ground.phase }, { on := 50, ground := Ground.phase }, { on := 51, ground := Ground.phase }, { on := 52, ground := Ground.phase }, { on := 53, ground := Ground.phase }, { on := 54, ground := Ground.phase }, { on := 55, ground := Ground.phase }, { on := 56, ground := Ground.phase }, { on := 57, ground := Ground.phase }, { on := 58, ground := Ground.phase }, { on := 59, ground := Ground.phase }, { on := 60, ground := Ground.phase }, { on := 61, ground := Ground.phase }, { on := 62, ground := Ground.phase }, { on := 63, ground := Ground.phase }, { on := 64, ground := Ground.phase }, { on := 65, ground := Ground.phase }, { on := 66, ground := Ground.phase }, { on := 67, ground := Ground.phase }, { on := 68, ground := Ground.phase }, { on := 69, ground := Ground.phase }, { on := 70, ground := Ground.phase }, { on := 71, ground := Ground.phase }, { on := 72, ground := Ground.phase }]).toArray, guard := none }) (v := ?_) rfl (by kernel_rfl) (by kernel_rfl) (by kernel_rfl) (fun _ _ _ h => h) (Or.inl ⟨by rfl, ?hy⟩) hHeld ?_
  case hy => ((intro w' hSw; (try dsimp only at hSw); go_simp); (try with_reducible rfl))
  (try simp only [Act.put, List.setIfInBounds_toArray, List.set_cons_zero, List.set_cons_succ])
  refine wpAnyH_done (by kernel_rfl) ?_ _
  (try refine NoPanic.normal ?_)
  go_wp2_with fail
  go_ret
  exact ⟨rfl, HEW.out.trans (((((((((((((((((HE1.out.trans HE2.out).trans HE3.out).trans HE4.out).trans HE5.out).trans HE6.out).trans HE7.out).trans HE8.out).trans HE9.out).trans HE10.out).trans HE11.out).trans HE12.out).trans HE13.out).trans HE14.out).trans HE15.out).trans HE16.out).trans HE17.out).trans HE18.out)⟩

end Go.Proofs.YtaljininilaemaaDoor
