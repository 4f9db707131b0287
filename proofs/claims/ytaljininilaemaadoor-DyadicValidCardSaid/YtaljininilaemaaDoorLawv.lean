/- The law DyadicValid. -/
import Derived.Test.YtaljininilaemaaDoorIvb
import Derived.Test.YtaljininilaemaaDoorOrd
import Derived.Test.YtaljininilaemaaDoorFlm
import Derived.Test.YtaljininilaemaaDoorQuz
import Derived.Test.YtaljininilaemaaDoorLawi
import Derived.Deep.RegionHeld3
import Derived.Deep.DeepCutAuto
namespace Go.Proofs.YtaljininilaemaaDoor
open Go.RowKit

/-- What Quo returns, whether there is a quotient or not. -/
def QuoRs (d : DV) (ev : Value) (w : World) (e : Ending) (w' : World) : Prop := ∃ A c, e = .returned (.tuple #[dv d.neg A (len d.m) c d.den, ev]) ∧ On w' w.heap.size A (len d.m) c (dg d.m) ∧ Ext w w'
theorem floor3 {w : World} {neg : Bool} {A A' : Option Addr} {n c c' : Nat} {den : Int} {d : DV} (h : Dy w neg A n c den d A' c') (hT : Tabs w) : Calls Tryd.prog 11 #[dv neg A n c den, I 3] w (DyOk (floorD d 3) w) := floor_any 3 h hT (by decide)
abbrev NumIs (ev : Value) (n : Int) : Prop := ∀ w, Calls Tryd.prog 27 #[ev] w fun e w' => e = .returned (I n) ∧ Ext w w'
theorem num_nilE : NumIs .nilIface 0 := fun w => (num_nil0 w).mono fun _ _ ⟨h, hw⟩ => ⟨h, hw ▸ Ext.refl _⟩
theorem num_errE (k : Int) : NumIs (.iface 57 (I k)) k := fun w => (num_err0 k w).mono fun _ _ ⟨h, hw⟩ => ⟨h, hw ▸ Ext.refl _⟩
abbrev QuoIs (a b : DV) (dq : DV) (ev : Value) : Prop := ∀ (w : World) (na nb : Bool) (A A' B B' : Option Addr) (n c c' k e e' : Nat) (da db : Int), Dy w na A n c da a A' c' → Dy w nb B k e db b B' e' → Tabs w → Calls Tryd.prog 12 #[dv na A n c da, dv nb B k e db, I 3] w (QuoRs dq ev w)
theorem quo_is (a b : DV) (la : len a.m ≤ 16) (tb : b.den ≤ 300) : ∃ dq ev n, dq.ok ∧ len dq.m ≤ 1000 ∧ QuoIs a b dq ev ∧ NumIs ev n := by
  by_cases hb : b.m = 0
  · refine ⟨DV.zero, .iface 57 (I 8), 8, DV.zero_ok, by rw [zero_len]; decide, ?_, num_errE 8⟩
    intro w na nb A A' B B' n c c' k e e' da db ha hb2 _
    refine (quo_zero 3 hb2 (by decide) hb).mono ?_
    rintro e w' ⟨rfl, hx⟩
    exact ⟨none, 0, by rw [zero_len]; rfl, by rw [zero_len]; exact On.nil _ _ _, hx⟩
  · refine ⟨quoD a b 3, .nilIface, 0, quoD_ok _ _ _, ?_, ?_, num_nilE⟩
    · obtain ⟨s1, hs1⟩ : ∃ s1, s1 = 3 + b.den - a.den := ⟨_, rfl⟩
      obtain ⟨s2, hs2⟩ : ∃ s2, s2 = a.den - (3 + b.den) := ⟨_, rfl⟩
      rw [quoD_eq hs1 hs2]
      refine Nat.le_trans (len_mono (mkD_m_le _ _ _)) ?_
      have h1 := len_shl a.m s1
      have h2 : quoUp (a.neg != b.neg) (a.m * 2 ^ s1) (b.m * 2 ^ s2) ≤ a.m * 2 ^ s1 + 1 := by
        have := Nat.div_le_self (a.m * 2 ^ s1) (b.m * 2 ^ s2)
        unfold quoUp; split <;> omega
      have h3 := len_mono h2
      have h4 := len_add (a.m * 2 ^ s1) 1
      have h5 : len 1 ≤ 1 := len_le (by decide)
      omega
    · intro w na nb A A' B B' n c c' k e e' da db ha hb2 hT
      exact quo_any 3 ha hb2 hT (by decide) hb

set_option maxRecDepth 100000 in
set_option maxHeartbeats 16000000 in
theorem valid_true {w : World} {na nb : Bool} {A A' B B' : Option Addr} {a0 a1 a2 b0 b1 b2 : Nat} {da db : Int} {a b : DV} (hha : Dy w na A a0 a1 da a A' a2) (hhb : Dy w nb B b0 b1 db b B' b2) (hT : Tabs w) (hP : TabP w)
    (fa : fewOk a0 da) (fb : fewOk b0 db) (sa : Sm a) (sb : Sm b) {va vb : Bool} (hva : ∀ w', Ext w w' → Calls Tryd.prog 14 #[dv na A a0 a1 da] w' (VldRes va w')) (hra : ∀ w', Ext w w' → Calls Tryd.prog 15 #[dv na A a0 a1 da] w' (VldRes va w'))
    (hvb : ∀ w', Ext w w' → Calls Tryd.prog 14 #[dv nb B b0 b1 db] w' (VldRes vb w')) (hrb : ∀ w', Ext w w' → Calls Tryd.prog 15 #[dv nb B b0 b1 db] w' (VldRes vb w')) {dq : DV} {ev : Value} {nu : Int} (hdq : dq.ok) (hldq : len dq.m ≤ 1000) (hQ : QuoIs a b dq ev) (hNu : NumIs ev nu) :
    Calls Tryd.prog 3 #[dv na A a0 a1 da, dv nb B b0 b1 db] w fun e w' => e = .returned (.bool true) ∧ Ext w w' := by
  have HA := Lib.hid hha; have HB := Lib.hid hhb; have HT := Lib.hid hT; have HP := Lib.hid hP; have HVa := Lib.hid hva; have HRa := Lib.hid hra; have HVb := Lib.hid hvb; have HRb := Lib.hid hrb
  have HQ : Hid (QuoIs a b dq ev) := hQ; have HNu : Hid (NumIs ev nu) := hNu
  clear hha hhb hT hP hva hra hvb hrb hQ hNu
  obtain ⟨oa, la, ta⟩ := sa
  obtain ⟨ob, lb, tb⟩ := sb
  have HFW := Lib.hid (few2 fa fb)
  clear fa fb
  obtain ⟨f, hf⟩ : ∃ x, floorD a 3 = x := ⟨_, rfl⟩
  obtain ⟨n, hn⟩ : ∃ x, negD a = x := ⟨_, rfl⟩
  obtain ⟨m, hm⟩ : ∃ x, absD a = x := ⟨_, rfl⟩
  obtain ⟨mi, hmi⟩ : ∃ x, minD a b = x := ⟨_, rfl⟩
  obtain ⟨ma, hma⟩ : ∃ x, maxD a b = x := ⟨_, rfl⟩
  obtain ⟨ab, hab⟩ : ∃ x, addD a b = x := ⟨_, rfl⟩
  obtain ⟨sb, hsb⟩ : ∃ x, subD a b = x := ⟨_, rfl⟩
  obtain ⟨ml, hml⟩ : ∃ x, mulD a b = x := ⟨_, rfl⟩
  obtain ⟨sh, hsh⟩ : ∃ x, shiftD a 5 = x := ⟨_, rfl⟩
  obtain ⟨sg, hsg⟩ : ∃ x, signD a = x := ⟨_, rfl⟩
  obtain ⟨cc, hcc⟩ : ∃ x, cmpD a b = x := ⟨_, rfl⟩
  obtain ⟨tx, htx⟩ : ∃ x, txtS a = x := ⟨_, rfl⟩
  obtain ⟨zb, hzb⟩ : ∃ x, isI a = x := ⟨_, rfl⟩
  obtain ⟨zi, hzi⟩ : ∃ x, (if isI a = true then ivD a else 0) = x := ⟨_, rfl⟩
  have Ef := Lib.hid hf
  have En := Lib.hid hn
  have Em := Lib.hid hm
  have Emi := Lib.hid hmi
  have Ema := Lib.hid hma
  have Eab := Lib.hid hab
  have Esb := Lib.hid hsb
  have Eml := Lib.hid hml
  have Esh := Lib.hid hsh
  have Cs := Lib.hid hsg
  have Cc := Lib.hid hcc
  have Tx := Lib.hid htx
  have Eb := Lib.hid hzb
  have Ei := Lib.hid hzi
  have Wf : Hid (f.ok ∧ len f.m ≤ 16777216) := ⟨hf ▸ floorD_ok oa _, by have := lim_floor a 3; rw [hf] at this; omega⟩
  have Wn : Hid (n.ok ∧ len n.m ≤ 16777216) := ⟨hn ▸ negD_ok _, by have := lim_neg a; rw [hn] at this; omega⟩
  have Wm : Hid (m.ok ∧ len m.m ≤ 16777216) := ⟨hm ▸ absD_ok _, by have h := len_mono (mkD_m_le false a.m a.den); have h2 : (absD a).m = (mkD false a.m a.den).m := rfl; rw [← h2, hm] at h; omega⟩
  have Wmi : Hid (mi.ok ∧ len mi.m ≤ 16777216) := ⟨hmi ▸ minD_ok oa ob, by rw [← hmi]; unfold minD; split <;> omega⟩
  have Wma : Hid (ma.ok ∧ len ma.m ≤ 16777216) := ⟨hma ▸ maxD_ok oa ob, by rw [← hma]; unfold maxD; split <;> omega⟩
  have Wab : Hid (ab.ok ∧ len ab.m ≤ 16777216) := ⟨hab ▸ addD_ok _ _, by have := lim_add (a := a) (b := b) oa.2.1 ob.2.1; rw [hab] at this; omega⟩
  have Wsb : Hid (sb.ok ∧ len sb.m ≤ 16777216) := ⟨hsb ▸ subD_ok _ _, by have := lim_sub (a := a) (b := b) oa.2.1 ob.2.1; rw [hsb] at this; omega⟩
  have Wml : Hid (ml.ok ∧ len ml.m ≤ 16777216) := ⟨hml ▸ mulD_ok _ _, by have := lim_mul a b; rw [hml] at this; omega⟩
  have Wsh : Hid (sh.ok ∧ len sh.m ≤ 16777216) := ⟨hsh ▸ shiftD_ok _ _, by have := lim_shift a 5; rw [hsh] at this; omega⟩
  have Wdq : Hid (dq.ok ∧ len dq.m ≤ 16777216) := ⟨hdq, by omega⟩
  have Lf : Hid (len f.m ≤ 1073741824) := by have := Wf.out.2; show _ ≤ _; omega
  have Ln : Hid (len n.m ≤ 1073741824) := by have := Wn.out.2; show _ ≤ _; omega
  have Lm : Hid (len m.m ≤ 1073741824) := by have := Wm.out.2; show _ ≤ _; omega
  have Lmi : Hid (len mi.m ≤ 1073741824) := by have := Wmi.out.2; show _ ≤ _; omega
  have Lma : Hid (len ma.m ≤ 1073741824) := by have := Wma.out.2; show _ ≤ _; omega
  have Lab : Hid (len ab.m ≤ 1073741824) := by have := Wab.out.2; show _ ≤ _; omega
  have Lsb : Hid (len sb.m ≤ 1073741824) := by have := Wsb.out.2; show _ ≤ _; omega
  have Lml : Hid (len ml.m ≤ 1073741824) := by have := Wml.out.2; show _ ≤ _; omega
  have Lsh : Hid (len sh.m ≤ 1073741824) := by have := Wsh.out.2; show _ ≤ _; omega
  have Ldq : Hid (len dq.m ≤ 1073741824) := by have := Wdq.out.2; show _ ≤ _; omega
  have La2 : Hid (len a.m ≤ 1048576) := by show _ ≤ _; omega
  have HX := Lib.hid (Dy.valid HA.out.rd HA.out.sl HA.out.wf HA.out.lim)
  have HY := Lib.hid (Dy.valid HB.out.rd HB.out.sl HB.out.wf HB.out.lim)
  clear hf hn hm hmi hma hab hsb hml hsh hsg hcc htx hzb hzi hdq hldq oa ob la lb ta tb
  go_enter Tryd.func3, Tryd.ntmps3
  go_wp2_with fail
  have HN := Lib.hid (nums2 ((w.alloc (.cells #[.bool na, .slice A a0 a1, I da] 24)).alloc (.cells #[.bool nb, .slice B b0 b1, I db] 24)) (w.heap.size + 1 + 1) (by simp) na nb A B a0 b0 a1 b1 da db 24)
  with_reducible refine (few_true HN.out (by simp) (by omega) HFW.out).mono ?_
  rintro e wf ⟨rfl, hx⟩
  have HEF : Hid (Ext w wf) := ((((Ext.alloc _ _).trans (Ext.alloc _ _)).trans (Ext.alloc _ _))).trans hx
  have Y0 : Hid (St wf w.heap.size (.bool na) (.slice A a0 a1) (I da)) := by
    have s := (Bx.new w (.bool na) (.slice A a0 a1) (I da) 24).1
    exact (((s.ext (Ext.alloc _ _)).ext (Ext.alloc _ _))).ext hx
  have Y1 : Hid (St wf (w.heap.size + 1) (.bool nb) (.slice B b0 b1) (I db)) := by
    have s := (Bx.new (w.alloc (.cells #[.bool na, .slice A a0 a1, I da] 24)) (.bool nb) (.slice B b0 b1) (I db) 24).1
    rw [show (w.alloc (.cells #[.bool na, .slice A a0 a1, I da] 24)).heap.size = w.heap.size + 1 by simp] at s
    exact ((s.ext (Ext.alloc _ _))).ext hx
  clear hx HN HFW
  go_wp2_with fail
  refine (awake_any _ (HT.out.ext HEF.out)).mono ?_
  rintro e w0 ⟨rfl, hx⟩
  have HE0 := Lib.hid (HEF.out.trans hx)
  have Z0 := Lib.hid (Y0.out.ext hx); have Z1 := Lib.hid (Y1.out.ext hx)
  clear hx Y0 Y1 HEF
  go_upto_region 3 with fail
  have HN1 := Lib.hid HA.out.norm; have HN2 := Lib.hid HB.out.norm
  have HS3 : Hid (∀ w', Ext w0 w' → w'.cell? ⟨w.heap.size, 0, none⟩ = some (.bool na) ∧ w'.cell? ⟨w.heap.size, 1, none⟩ = some (.slice A a0 a1) ∧ w'.cell? ⟨w.heap.size, 2, none⟩ = some (I da) ∧ w'.cell? ⟨w.heap.size + 1, 0, none⟩ = some (.bool nb) ∧ w'.cell? ⟨w.heap.size + 1, 1, none⟩ = some (.slice B b0 b1) ∧ w'.cell? ⟨w.heap.size + 1, 2, none⟩ = some (I db)) := fun w' e => by
    obtain ⟨p0, q0, r0⟩ := Z0.out.ext e
    obtain ⟨p1, q1, r1⟩ := Z1.out.ext e
    exact ⟨p0, q0, r0, p1, q1, r1⟩
  go_cut [5, 6] (fun s5 s6 wx => ∃ p q, s5 = .pointer (some ⟨p, 0, none⟩) ∧ s6 = .pointer (some ⟨q, 0, none⟩) ∧ Hid (Ext w0 wx ∧ St wx p (.bool a.neg) (.slice A' (len a.m) a2) (I a.den) ∧ St wx q (.bool b.neg) (.slice B' (len b.m) b2) (I b.den)))
  case first =>
    clear Ef En Em Emi Ema Eab Esb Eml Esh Cs Cc Tx Eb Ei Wf Wn Wm Wmi Wma Wab Wsb Wml Wsh Wdq Lf Ln Lm Lmi Lma Lab Lsb Lml Lsh Ldq La2 HX HY HT HP HVa HRa HVb HRb HQ HNu HA HB Z0 Z1
    go_region_held3 (fun w' => w'.cell? ⟨w.heap.size, 0, none⟩ = some (.bool na) ∧ w'.cell? ⟨w.heap.size, 1, none⟩ = some (.slice A a0 a1) ∧ w'.cell? ⟨w.heap.size, 2, none⟩ = some (I da) ∧ w'.cell? ⟨w.heap.size + 1, 0, none⟩ = some (.bool nb) ∧ w'.cell? ⟨w.heap.size + 1, 1, none⟩ = some (.slice B b0 b1) ∧ w'.cell? ⟨w.heap.size + 1, 2, none⟩ = some (I db)) (first | with_reducible assumption | exact HS3.out _ (by (with_reducible (repeat (first | exact Ext.refl _ | assumption | (refine Ext.toSet ?_ (by omega)) | refine Ext.toAlloc ?_ | refine Ext.toDrew ?_ | refine Ext.toDrewN ?_ | refine Ext.trans ?_ (by assumption)))); (first | done | fail "no")))
      (first
        | (have hg := hx1; clear hg; go_at_call 10; (with_reducible refine (HN2.out _ (HE0.out.trans (by (with_reducible (repeat (first | exact Ext.refl _ | assumption | (refine Ext.toSet ?_ (by omega)) | refine Ext.toAlloc ?_ | refine Ext.toDrew ?_ | refine Ext.toDrewN ?_ | refine Ext.trans ?_ (by assumption)))); (first | done | fail "no")))).mono ?_); rintro e w2 ⟨rfl, hx2⟩; have g2 := Ext.size hx2; (try simp only [World.size_alloc] at g2); (first
          | (have V1 := Lib.hid (U1.out.ext hx2); have V2 := Lib.hid (U2.out.ext hx2); obtain ⟨⟨v10, v11, v12⟩, v13⟩ := V1.out; obtain ⟨⟨v20, v21, v22⟩, v23⟩ := V2.out; have l1 := V1.out.lt; have m1 := Nat.ne_of_lt l1; have n1 := Nat.ne_of_gt l1; have l2 := V2.out.lt; have m2 := Nat.ne_of_lt l2; have n2 := Nat.ne_of_gt l2)
          | ((with_reducible have u2 := one_new hx2); have V2 := Lib.hid u2; have V1 := Lib.hid (U1.out.ext ((Ext.alloc _ _).trans hx2)); clear u2; obtain ⟨⟨v10, v11, v12⟩, v13⟩ := V1.out; obtain ⟨⟨v20, v21, v22⟩, v23⟩ := V2.out; have l1 := V1.out.lt; have m1 := Nat.ne_of_lt l1; have n1 := Nat.ne_of_gt l1; have l2 := V2.out.lt; have m2 := Nat.ne_of_lt l2; have n2 := Nat.ne_of_gt l2)
          | (have V1 := Lib.hid (U1.out.ext hx2); obtain ⟨⟨v10, v11, v12⟩, v13⟩ := V1.out; have l1 := V1.out.lt; have m1 := Nat.ne_of_lt l1; have n1 := Nat.ne_of_gt l1)
          | ((with_reducible have uu := two_new hx2); obtain ⟨u1, u2⟩ := uu; have V1 := Lib.hid u1; have V2 := Lib.hid u2; clear u1 u2; obtain ⟨⟨v10, v11, v12⟩, v13⟩ := V1.out; obtain ⟨⟨v20, v21, v22⟩, v23⟩ := V2.out; have l1 := V1.out.lt; have m1 := Nat.ne_of_lt l1; have n1 := Nat.ne_of_gt l1; have l2 := V2.out.lt; have m2 := Nat.ne_of_lt l2; have n2 := Nat.ne_of_gt l2)
          | ((with_reducible have u1 := one_new hx2); have V1 := Lib.hid u1; clear u1; obtain ⟨⟨v10, v11, v12⟩, v13⟩ := V1.out; have l1 := V1.out.lt; have m1 := Nat.ne_of_lt l1; have n1 := Nat.ne_of_gt l1)
          | skip))
        | (go_at_call 10; (with_reducible refine (HN1.out _ (HE0.out.trans (by (with_reducible (repeat (first | exact Ext.refl _ | assumption | (refine Ext.toSet ?_ (by omega)) | refine Ext.toAlloc ?_ | refine Ext.toDrew ?_ | refine Ext.toDrewN ?_ | refine Ext.trans ?_ (by assumption)))); (first | done | fail "no")))).mono ?_); rintro e w1 ⟨rfl, hx1⟩; have g1 := Ext.size hx1; (try simp only [World.size_drew, World.size_alloc] at g1); (first | ((with_reducible have uu := two_newd hx1); obtain ⟨u1, u2⟩ := uu; have U1 := Lib.hid u1; have U2 := Lib.hid u2; clear u1 u2) | ((with_reducible have u1 := one_newd hx1); have U1 := Lib.hid u1; clear u1) | skip)))
    all_goals
      go_wp2_with fail
      go_meet
      refine ⟨_, _, rfl, rfl, (by (with_reducible (repeat (first | exact Ext.refl _ | assumption | (refine Ext.toSet ?_ (by omega)) | refine Ext.toAlloc ?_ | refine Ext.toDrew ?_ | refine Ext.toDrewN ?_ | refine Ext.trans ?_ (by assumption)))); (first | done | fail "no")), ⟨by go_simp, by go_simp, by go_simp⟩, ⟨by go_simp, by go_simp, by go_simp⟩⟩
  case rest =>
    obtain ⟨p, q, rfl, rfl, hc⟩ := hcut
    obtain ⟨hx, hp, hq⟩ := hc.out
    have X0 := Lib.hid (HE0.out.trans hx)
    have Sp := Lib.hid hp; have Sq := Lib.hid hq; have Sa := Lib.hid (Z0.out.ext hx); have Sb := Lib.hid (Z1.out.ext hx)
    clear hc hx hp hq Z0 Z1 HN1 HN2 HS3 HE0
    obtain ⟨za0, za1, za2⟩ := Sa.out
    go_wp2_with (first
      | (have hg := HE5; clear hg; go_at_call 13; (with_reducible refine (int_any (HX.out.ext (X0.out.trans ((((HE1.out.trans HE2.out).trans HE3.out).trans HE4.out).trans HE5.out))) (HT.out.ext (X0.out.trans ((((HE1.out.trans HE2.out).trans HE3.out).trans HE4.out).trans HE5.out)))).mono ?_); rw [Ei.out]; rw [Eb.out]; rintro e w6 ⟨rfl, hx⟩; have HE6 := Lib.hid (hx); clear zp0 zp1 zp2; clear hx)
      | (have hg := HE4; clear hg; go_at_call 13; (with_reducible refine (int_any (HA.out.ext (X0.out.trans ((((HE1.out.trans HE2.out).trans HE3.out).trans HE4.out).trans (Ext.alloc _ _)))) (HT.out.ext (X0.out.trans ((((HE1.out.trans HE2.out).trans HE3.out).trans HE4.out).trans (Ext.alloc _ _))))).mono ?_); rw [Ei.out]; rw [Eb.out]; rintro e w5 ⟨rfl, hx⟩; have HE5 := Lib.hid ((Ext.alloc _ _).trans hx); have HB4 : Hid (∀ w', Ext w5 w' → St w' w4.heap.size (.bool dq.neg) (.slice A4 (len dq.m) c4) (I dq.den)) := fun _ e => ((St.new w4 _ _ _ _).ext hx).ext e; clear za0 za1 za2; clear hx; obtain ⟨zp0, zp1, zp2⟩ := Sp.out.ext ((((HE1.out.trans HE2.out).trans HE3.out).trans HE4.out).trans HE5.out))
      | (have hg := HE3; clear hg; go_at_call 12; (with_reducible refine (HQ.out _ _ _ _ _ _ _ _ _ _ _ _ _ _ _ (HX.out.ext (X0.out.trans (((HE1.out.trans HE2.out).trans HE3.out).trans (Ext.alloc _ _)))) (HY.out.ext (X0.out.trans (((HE1.out.trans HE2.out).trans HE3.out).trans (Ext.alloc _ _)))) (HT.out.ext (X0.out.trans (((HE1.out.trans HE2.out).trans HE3.out).trans (Ext.alloc _ _))))).mono ?_); rintro e w4 ⟨A4, c4, rfl, hon, hx⟩; have HE4 := Lib.hid ((Ext.alloc _ _).trans hx); have HI4 := Lib.hid (Dy.at_ hon Wdq.out.1 Wdq.out.2); clear hon; have HB3 : Hid (∀ w', Ext w4 w' → St w' w3.heap.size (.bool dq.neg) (.slice A3 (len dq.m) c3) (I dq.den)) := fun _ e => ((St.new w3 _ _ _ _).ext hx).ext e; clear zp0 zp1 zp2 zq0 zq1 zq2; clear hx; obtain ⟨za0, za1, za2⟩ := Sa.out.ext ((((HE1.out.trans HE2.out).trans HE3.out).trans HE4.out).trans (Ext.alloc _ (.cells #[.bool dq.neg, .slice A4 (len dq.m) c4, I dq.den] 24))))
      | (have hg := HE2; clear hg; go_at_call 12; (with_reducible refine (HQ.out _ _ _ _ _ _ _ _ _ _ _ _ _ _ _ (HA.out.ext (X0.out.trans ((HE1.out.trans HE2.out).trans (Ext.alloc _ _)))) (HB.out.ext (X0.out.trans ((HE1.out.trans HE2.out).trans (Ext.alloc _ _)))) (HT.out.ext (X0.out.trans ((HE1.out.trans HE2.out).trans (Ext.alloc _ _))))).mono ?_); rintro e w3 ⟨A3, c3, rfl, hon, hx⟩; have HE3 := Lib.hid ((Ext.alloc _ _).trans hx); have HI3 := Lib.hid (Dy.at_ hon Wdq.out.1 Wdq.out.2); clear hon; have HB2 : Hid (∀ w', Ext w3 w' → St w' w2.heap.size (.bool f.neg) (.slice A2 (len f.m) c2) (I f.den)) := fun _ e => ((St.new w2 _ _ _ _).ext hx).ext e; clear za0 za1 za2 zb0 zb1 zb2; clear hx; obtain ⟨zp0, zp1, zp2⟩ := Sp.out.ext (((HE1.out.trans HE2.out).trans HE3.out).trans (Ext.alloc _ (.cells #[.bool dq.neg, .slice A3 (len dq.m) c3, I dq.den] 24))); obtain ⟨zq0, zq1, zq2⟩ := Sq.out.ext (((HE1.out.trans HE2.out).trans HE3.out).trans (Ext.alloc _ (.cells #[.bool dq.neg, .slice A3 (len dq.m) c3, I dq.den] 24))))
      | (have hg := HE1; clear hg; go_at_call 11; (with_reducible refine (floor3 (HX.out.ext (X0.out.trans (HE1.out.trans (Ext.alloc _ _)))) (HT.out.ext (X0.out.trans (HE1.out.trans (Ext.alloc _ _))))).mono ?_); rw [Ef.out]; rintro e w2 ⟨A2, c2, rfl, hon, hx⟩; have HE2 := Lib.hid ((Ext.alloc _ _).trans hx); have HI2 := Lib.hid (Dy.at_ hon Wf.out.1 Wf.out.2); clear hon; have HB1 : Hid (∀ w', Ext w2 w' → St w' w1.heap.size (.bool f.neg) (.slice A1 (len f.m) c1) (I f.den)) := fun _ e => ((St.new w1 _ _ _ _).ext hx).ext e; clear zp0 zp1 zp2; clear hx; obtain ⟨za0, za1, za2⟩ := Sa.out.ext ((HE1.out.trans HE2.out).trans (Ext.alloc _ (.cells #[.bool f.neg, .slice A2 (len f.m) c2, I f.den] 24))); obtain ⟨zb0, zb1, zb2⟩ := Sb.out.ext ((HE1.out.trans HE2.out).trans (Ext.alloc _ (.cells #[.bool f.neg, .slice A2 (len f.m) c2, I f.den] 24))))
      | (go_at_call 11; (with_reducible refine (floor3 (HA.out.ext (X0.out.trans (Ext.refl _))) (HT.out.ext (X0.out.trans (Ext.refl _)))).mono ?_); rw [Ef.out]; rintro e w1 ⟨A1, c1, rfl, hon, hx⟩; have HE1 := Lib.hid (hx); have HI1 := Lib.hid (Dy.at_ hon Wf.out.1 Wf.out.2); clear hon; clear za0 za1 za2; clear hx; obtain ⟨zp0, zp1, zp2⟩ := Sp.out.ext (HE1.out.trans (Ext.alloc _ (.cells #[.bool f.neg, .slice A1 (len f.m) c1, I f.den] 24)))))
    have B1 : Hid (St w6 w1.heap.size (.bool f.neg) (.slice A1 (len f.m) c1) (I f.den)) := HB1.out _ (((HE3.out.trans HE4.out).trans HE5.out).trans HE6.out)
    have B2 : Hid (St w6 w2.heap.size (.bool f.neg) (.slice A2 (len f.m) c2) (I f.den)) := HB2.out _ ((HE4.out.trans HE5.out).trans HE6.out)
    have B3 : Hid (St w6 w3.heap.size (.bool dq.neg) (.slice A3 (len dq.m) c3) (I dq.den)) := HB3.out _ (HE5.out.trans HE6.out)
    have B4 : Hid (St w6 w4.heap.size (.bool dq.neg) (.slice A4 (len dq.m) c4) (I dq.den)) := HB4.out _ HE6.out
    have J1 : Hid (∀ w', Ext w6.drew w' → Dy w' f.neg A1 (len f.m) c1 f.den f A1 c1) := fun _ e => HI1.out _ ((((((HE2.out.trans HE3.out).trans HE4.out).trans HE5.out).trans HE6.out).trans (Ext.drew _)).trans e)
    have J2 : Hid (∀ w', Ext w6.drew w' → Dy w' f.neg A2 (len f.m) c2 f.den f A2 c2) := fun _ e => HI2.out _ (((((HE3.out.trans HE4.out).trans HE5.out).trans HE6.out).trans (Ext.drew _)).trans e)
    have J3 : Hid (∀ w', Ext w6.drew w' → Dy w' dq.neg A3 (len dq.m) c3 dq.den dq A3 c3) := fun _ e => HI3.out _ ((((HE4.out.trans HE5.out).trans HE6.out).trans (Ext.drew _)).trans e)
    have J4 : Hid (∀ w', Ext w6.drew w' → Dy w' dq.neg A4 (len dq.m) c4 dq.den dq A4 c4) := fun _ e => HI4.out _ (((HE5.out.trans HE6.out).trans (Ext.drew _)).trans e)
    have XW := Lib.hid (X0.out.trans ((((((HE1.out.trans HE2.out).trans HE3.out).trans HE4.out).trans HE5.out).trans HE6.out).trans (Ext.drew _)))
    have XV := Lib.hid ((((((HE1.out.trans HE2.out).trans HE3.out).trans HE4.out).trans HE5.out).trans HE6.out).trans (Ext.drew _))
    have HS0 : Hid (∀ w', Ext w6.drew w' → w'.cell? ⟨w.heap.size, 0, none⟩ = some (.bool na) ∧ w'.cell? ⟨w.heap.size, 1, none⟩ = some (.slice A a0 a1) ∧ w'.cell? ⟨w.heap.size, 2, none⟩ = some (I da) ∧ w'.cell? ⟨w.heap.size + 1, 0, none⟩ = some (.bool nb) ∧ w'.cell? ⟨w.heap.size + 1, 1, none⟩ = some (.slice B b0 b1) ∧ w'.cell? ⟨w.heap.size + 1, 2, none⟩ = some (I db) ∧ w'.cell? ⟨p, 0, none⟩ = some (.bool a.neg) ∧ w'.cell? ⟨p, 1, none⟩ = some (.slice A' (len a.m) a2) ∧ w'.cell? ⟨p, 2, none⟩ = some (I a.den) ∧ w'.cell? ⟨q, 0, none⟩ = some (.bool b.neg) ∧ w'.cell? ⟨q, 1, none⟩ = some (.slice B' (len b.m) b2) ∧ w'.cell? ⟨q, 2, none⟩ = some (I b.den) ∧ w'.cell? ⟨w1.heap.size, 0, none⟩ = some (.bool f.neg) ∧ w'.cell? ⟨w1.heap.size, 1, none⟩ = some (.slice A1 (len f.m) c1) ∧ w'.cell? ⟨w1.heap.size, 2, none⟩ = some (I f.den) ∧ w'.cell? ⟨w2.heap.size, 0, none⟩ = some (.bool f.neg) ∧ w'.cell? ⟨w2.heap.size, 1, none⟩ = some (.slice A2 (len f.m) c2) ∧ w'.cell? ⟨w2.heap.size, 2, none⟩ = some (I f.den) ∧ w'.cell? ⟨w3.heap.size, 0, none⟩ = some (.bool dq.neg) ∧ w'.cell? ⟨w3.heap.size, 1, none⟩ = some (.slice A3 (len dq.m) c3) ∧ w'.cell? ⟨w3.heap.size, 2, none⟩ = some (I dq.den) ∧ w'.cell? ⟨w4.heap.size, 0, none⟩ = some (.bool dq.neg) ∧ w'.cell? ⟨w4.heap.size, 1, none⟩ = some (.slice A4 (len dq.m) c4) ∧ w'.cell? ⟨w4.heap.size, 2, none⟩ = some (I dq.den)) := fun w' e => by
      obtain ⟨xa0, xa1, xa2⟩ := Sa.out.ext (XV.out.trans e)
      obtain ⟨xb0, xb1, xb2⟩ := Sb.out.ext (XV.out.trans e)
      obtain ⟨xp0, xp1, xp2⟩ := Sp.out.ext (XV.out.trans e)
      obtain ⟨xq0, xq1, xq2⟩ := Sq.out.ext (XV.out.trans e)
      obtain ⟨x10, x11, x12⟩ := B1.out.ext ((Ext.drew _).trans e)
      obtain ⟨x20, x21, x22⟩ := B2.out.ext ((Ext.drew _).trans e)
      obtain ⟨x30, x31, x32⟩ := B3.out.ext ((Ext.drew _).trans e)
      obtain ⟨x40, x41, x42⟩ := B4.out.ext ((Ext.drew _).trans e)
      exact ⟨xa0, xa1, xa2, xb0, xb1, xb2, xp0, xp1, xp2, xq0, xq1, xq2, x10, x11, x12, x20, x21, x22, x30, x31, x32, x40, x41, x42⟩
    clear HB1 HB2 HB3 HB4 HI1 HI2 HI3 HI4 Sa Sb Sp Sq B1 B2 B3 B4 XV
    generalize w1.heap.size = g1 at *
    generalize w2.heap.size = g2 at *
    generalize w3.heap.size = g3 at *
    generalize w4.heap.size = g4 at *
    have HEW := XW
    clear HE1 HE2 HE3 HE4 HE5 HE6 X0 XW
    have HIF_ := J1
    have HIG_ := J2
    have HIQ_ := J3
    have HIR_ := J4
    clear J1 J2 J3 J4
    have HS := HS0
    clear HS0
    have hk := HS.out _ (Ext.refl _)
    dsimp only [List.append]
    refine wp_region_noPanic ?_
    refine wp_region_held_drew (S := fun w' => w'.cell? ⟨w.heap.size, 0, none⟩ = some (.bool na) ∧ w'.cell? ⟨w.heap.size, 1, none⟩ = some (.slice A a0 a1) ∧ w'.cell? ⟨w.heap.size, 2, none⟩ = some (I da) ∧ w'.cell? ⟨w.heap.size + 1, 0, none⟩ = some (.bool nb) ∧ w'.cell? ⟨w.heap.size + 1, 1, none⟩ = some (.slice B b0 b1) ∧ w'.cell? ⟨w.heap.size + 1, 2, none⟩ = some (I db) ∧ w'.cell? ⟨p, 0, none⟩ = some (.bool a.neg) ∧ w'.cell? ⟨p, 1, none⟩ = some (.slice A' (len a.m) a2) ∧ w'.cell? ⟨p, 2, none⟩ = some (I a.den) ∧ w'.cell? ⟨q, 0, none⟩ = some (.bool b.neg) ∧ w'.cell? ⟨q, 1, none⟩ = some (.slice B' (len b.m) b2) ∧ w'.cell? ⟨q, 2, none⟩ = some (I b.den) ∧ w'.cell? ⟨g1, 0, none⟩ = some (.bool f.neg) ∧ w'.cell? ⟨g1, 1, none⟩ = some (.slice A1 (len f.m) c1) ∧ w'.cell? ⟨g1, 2, none⟩ = some (I f.den) ∧ w'.cell? ⟨g2, 0, none⟩ = some (.bool f.neg) ∧ w'.cell? ⟨g2, 1, none⟩ = some (.slice A2 (len f.m) c2) ∧ w'.cell? ⟨g2, 2, none⟩ = some (I f.den) ∧ w'.cell? ⟨g3, 0, none⟩ = some (.bool dq.neg) ∧ w'.cell? ⟨g3, 1, none⟩ = some (.slice A3 (len dq.m) c3) ∧ w'.cell? ⟨g3, 2, none⟩ = some (I dq.den) ∧ w'.cell? ⟨g4, 0, none⟩ = some (.bool dq.neg) ∧ w'.cell? ⟨g4, 1, none⟩ = some (.slice A4 (len dq.m) c4) ∧ w'.cell? ⟨g4, 2, none⟩ = some (I dq.den)) (by kernel_rfl) ?_ (fun hHeld => ?_)
    · exact hk
    refine wpAnyH_take (i := 0) (oi := { dst := some 65, op := Op.load 24 (Operand.tmp 2), type := 24, pos := "law.go:41", after := #[], guard := none }) (v := ?_) rfl (by as_aux_lemma => kernel_rfl) (by as_aux_lemma => kernel_rfl) (by as_aux_lemma => kernel_rfl) (fun _ _ _ h => h) (Or.inl ⟨by rfl, ?hy⟩) hHeld ?_
    case hy => ((intro w' hSw; (try dsimp only at hSw); go_simp); (try with_reducible rfl))
    (try simp only [Act.put, List.setIfInBounds_toArray, List.set_cons_zero, List.set_cons_succ])
    refine wpAnyH_take (i := 2) (oi := { dst := some 67, op := Op.load 24 (Operand.tmp 2), type := 24, pos := "law.go:41", after := #[], guard := none }) (v := ?_) rfl (by as_aux_lemma => kernel_rfl) (by as_aux_lemma => kernel_rfl) (by as_aux_lemma => kernel_rfl) (fun _ _ _ h => h) (Or.inl ⟨by rfl, ?hy⟩) hHeld ?_
    case hy => ((intro w' hSw; (try dsimp only at hSw); go_simp); (try with_reducible rfl))
    (try simp only [Act.put, List.setIfInBounds_toArray, List.set_cons_zero, List.set_cons_succ])
    refine wpAnyH_ready (rs := [1]) (by as_aux_lemma => kernel_rfl) (by simp) ?_
    refine AllReadyH.cons (o := { dst := some 66, op := Op.call { callee := Callee.value (Operand.func 14), args := #[Operand.tmp 65], argTypes := #[24] }, type := 4, pos := "law.go:41", after := #[{ on := 0, ground := Ground.data }], guard := none }) rfl (fun K hK => ?_) AllReadyH.nil
    go_simp
    (go_at_call 14; (with_reducible refine (HVa.out _ (HEW.out.trans (Ext.refl _))).mono ?_); rintro e w1 ⟨rfl, hx⟩; have HE1 := Lib.hid hx; clear hx hk; have hk := HS.out _ HE1.out)
    (try go_wp2_with fail)
    refine hK.out _ _ hk (fun hHeld' => ?_)
    clear hK K hHeld
    have hHeld := hHeld'
    clear hHeld'
    (try simp only [Act.put, List.setIfInBounds_toArray, List.set_cons_zero, List.set_cons_succ])
    refine wpAnyH_ready (rs := [3]) (by as_aux_lemma => kernel_rfl) (by simp) ?_
    refine AllReadyH.cons (o := { dst := some 68, op := Op.call { callee := Callee.value (Operand.func 15), args := #[Operand.tmp 67], argTypes := #[24] }, type := 4, pos := "law.go:41", after := #[{ on := 2, ground := Ground.data }, { on := 1, ground := Ground.chain }], guard := none }) rfl (fun K hK => ?_) AllReadyH.nil
    go_simp
    (go_at_call 15; (with_reducible refine (HRa.out _ (HEW.out.trans HE1.out)).mono ?_); rintro e w2 ⟨rfl, hx⟩; have HE2 := Lib.hid hx; clear hx hk; have hk := HS.out _ (HE1.out.trans HE2.out))
    (try go_wp2_with fail)
    refine hK.out _ _ hk (fun hHeld' => ?_)
    clear hK K hHeld
    have hHeld := hHeld'
    clear hHeld'
    (try simp only [Act.put, List.setIfInBounds_toArray, List.set_cons_zero, List.set_cons_succ])
    refine wpAnyH_take (i := 4) (oi := { dst := some 69, op := Op.binOp BinOp.eql 4 (Operand.tmp 66) (Operand.tmp 68) 4, type := 4, pos := "law.go:41", after := #[{ on := 1, ground := Ground.data }, { on := 3, ground := Ground.data }], guard := none }) (v := ?_) rfl (by as_aux_lemma => kernel_rfl) (by as_aux_lemma => kernel_rfl) (by as_aux_lemma => kernel_rfl) (fun _ _ _ h => h) (Or.inl ⟨by rfl, ?hy⟩) hHeld ?_
    case hy => ((intro w' hSw; (try dsimp only at hSw); go_simp); (try with_reducible rfl))
    (try simp only [Act.put, List.setIfInBounds_toArray, List.set_cons_zero, List.set_cons_succ])
    refine wpAnyH_take (i := 5) (oi := { dst := some 70, op := Op.move (Operand.tmp 69), type := 4, pos := "law.go:41", after := #[{ on := 4, ground := Ground.data }, { on := 3, ground := Ground.chain }], guard := none }) (v := ?_) rfl (by as_aux_lemma => kernel_rfl) (by as_aux_lemma => kernel_rfl) (by as_aux_lemma => kernel_rfl) (fun _ _ _ h => h) (Or.inl ⟨by rfl, ?hy⟩) hHeld ?_
    case hy => ((intro w' hSw; (try dsimp only at hSw); go_simp); (try with_reducible rfl))
    (try simp only [Act.put, List.setIfInBounds_toArray, List.set_cons_zero, List.set_cons_succ])
    refine wpAnyH_take (i := 6) (oi := { dst := some 71, op := Op.load 24 (Operand.tmp 3), type := 24, pos := "law.go:41", after := #[{ on := 5, ground := Ground.guard }], guard := some (5, true) }) (v := ?_) rfl (by as_aux_lemma => kernel_rfl) (by as_aux_lemma => kernel_rfl) (by as_aux_lemma => kernel_rfl) (fun _ _ _ h => h) (Or.inl ⟨by rfl, ?hy⟩) hHeld ?_
    case hy => ((intro w' hSw; (try dsimp only at hSw); go_simp); (try with_reducible rfl))
    (try simp only [Act.put, List.setIfInBounds_toArray, List.set_cons_zero, List.set_cons_succ])
    refine wpAnyH_take (i := 8) (oi := { dst := some 73, op := Op.load 24 (Operand.tmp 3), type := 24, pos := "law.go:41", after := #[{ on := 5, ground := Ground.guard }], guard := some (5, true) }) (v := ?_) rfl (by as_aux_lemma => kernel_rfl) (by as_aux_lemma => kernel_rfl) (by as_aux_lemma => kernel_rfl) (fun _ _ _ h => h) (Or.inl ⟨by rfl, ?hy⟩) hHeld ?_
    case hy => ((intro w' hSw; (try dsimp only at hSw); go_simp); (try with_reducible rfl))
    (try simp only [Act.put, List.setIfInBounds_toArray, List.set_cons_zero, List.set_cons_succ])
    refine wpAnyH_ready (rs := [7]) (by as_aux_lemma => kernel_rfl) (by simp) ?_
    refine AllReadyH.cons (o := { dst := some 72, op := Op.call { callee := Callee.value (Operand.func 14), args := #[Operand.tmp 71], argTypes := #[24] }, type := 4, pos := "law.go:41", after := #[{ on := 6, ground := Ground.data }, { on := 5, ground := Ground.chain }, { on := 5, ground := Ground.guard }], guard := some (5, true) }) rfl (fun K hK => ?_) AllReadyH.nil
    go_simp
    (go_at_call 14; (with_reducible refine (HVb.out _ (HEW.out.trans (HE1.out.trans HE2.out))).mono ?_); rintro e w3 ⟨rfl, hx⟩; have HE3 := Lib.hid hx; clear hx hk; have hk := HS.out _ ((HE1.out.trans HE2.out).trans HE3.out))
    (try go_wp2_with fail)
    refine hK.out _ _ hk (fun hHeld' => ?_)
    clear hK K hHeld
    have hHeld := hHeld'
    clear hHeld'
    (try simp only [Act.put, List.setIfInBounds_toArray, List.set_cons_zero, List.set_cons_succ])
    refine wpAnyH_ready (rs := [9]) (by as_aux_lemma => kernel_rfl) (by simp) ?_
    refine AllReadyH.cons (o := { dst := some 74, op := Op.call { callee := Callee.value (Operand.func 15), args := #[Operand.tmp 73], argTypes := #[24] }, type := 4, pos := "law.go:41", after := #[{ on := 8, ground := Ground.data }, { on := 7, ground := Ground.chain }, { on := 5, ground := Ground.guard }], guard := some (5, true) }) rfl (fun K hK => ?_) AllReadyH.nil
    go_simp
    (go_at_call 15; (with_reducible refine (HRb.out _ (HEW.out.trans ((HE1.out.trans HE2.out).trans HE3.out))).mono ?_); rintro e w4 ⟨rfl, hx⟩; have HE4 := Lib.hid hx; clear hx hk; have hk := HS.out _ (((HE1.out.trans HE2.out).trans HE3.out).trans HE4.out))
    (try go_wp2_with fail)
    refine hK.out _ _ hk (fun hHeld' => ?_)
    clear hK K hHeld
    have hHeld := hHeld'
    clear hHeld'
    (try simp only [Act.put, List.setIfInBounds_toArray, List.set_cons_zero, List.set_cons_succ])
    refine wpAnyH_take (i := 10) (oi := { dst := some 75, op := Op.binOp BinOp.eql 4 (Operand.tmp 72) (Operand.tmp 74) 4, type := 4, pos := "law.go:41", after := #[{ on := 7, ground := Ground.data }, { on := 9, ground := Ground.data }, { on := 5, ground := Ground.guard }], guard := some (5, true) }) (v := ?_) rfl (by as_aux_lemma => kernel_rfl) (by as_aux_lemma => kernel_rfl) (by as_aux_lemma => kernel_rfl) (fun _ _ _ h => h) (Or.inl ⟨by rfl, ?hy⟩) hHeld ?_
    case hy => ((intro w' hSw; (try dsimp only at hSw); go_simp); (try with_reducible rfl))
    (try simp only [Act.put, List.setIfInBounds_toArray, List.set_cons_zero, List.set_cons_succ])
    refine wpAnyH_take (i := 11) (oi := { dst := some 76, op := Op.pick (Operand.tmp 70) (Operand.tmp 75) (Operand.const (Value.bool false)), type := 4, pos := "law.go:41", after := #[{ on := 5, ground := Ground.data }, { on := 10, ground := Ground.data }], guard := none }) (v := ?_) rfl (by as_aux_lemma => kernel_rfl) (by as_aux_lemma => kernel_rfl) (by as_aux_lemma => kernel_rfl) (fun _ _ _ h => h) (Or.inl ⟨by rfl, ?hy⟩) hHeld ?_
    case hy => ((intro w' hSw; (try dsimp only at hSw); go_simp); (try with_reducible rfl))
    (try simp only [Act.put, List.setIfInBounds_toArray, List.set_cons_zero, List.set_cons_succ])
    refine wpAnyH_take (i := 12) (oi := { dst := some 77, op := Op.move (Operand.tmp 76), type := 4, pos := "law.go:41", after := #[{ on := 11, ground := Ground.data }, { on := 9, ground := Ground.chain }], guard := none }) (v := ?_) rfl (by as_aux_lemma => kernel_rfl) (by as_aux_lemma => kernel_rfl) (by as_aux_lemma => kernel_rfl) (fun _ _ _ h => h) (Or.inl ⟨by rfl, ?hy⟩) hHeld ?_
    case hy => ((intro w' hSw; (try dsimp only at hSw); go_simp); (try with_reducible rfl))
    (try simp only [Act.put, List.setIfInBounds_toArray, List.set_cons_zero, List.set_cons_succ])
    refine wpAnyH_take (i := 13) (oi := { dst := some 78, op := Op.load 24 (Operand.tmp 2), type := 24, pos := "law.go:41", after := #[{ on := 12, ground := Ground.guard }], guard := some (12, true) }) (v := ?_) rfl (by as_aux_lemma => kernel_rfl) (by as_aux_lemma => kernel_rfl) (by as_aux_lemma => kernel_rfl) (fun _ _ _ h => h) (Or.inl ⟨by rfl, ?hy⟩) hHeld ?_
    case hy => ((intro w' hSw; (try dsimp only at hSw); go_simp); (try with_reducible rfl))
    (try simp only [Act.put, List.setIfInBounds_toArray, List.set_cons_zero, List.set_cons_succ])
    refine wpAnyH_take (i := 15) (oi := { dst := some 80, op := Op.load 24 (Operand.tmp 5), type := 24, pos := "law.go:41", after := #[{ on := 12, ground := Ground.guard }], guard := some (12, true) }) (v := ?_) rfl (by as_aux_lemma => kernel_rfl) (by as_aux_lemma => kernel_rfl) (by as_aux_lemma => kernel_rfl) (fun _ _ _ h => h) (Or.inl ⟨by rfl, ?hy⟩) hHeld ?_
    case hy => ((intro w' hSw; (try dsimp only at hSw); go_simp); (try with_reducible rfl))
    (try simp only [Act.put, List.setIfInBounds_toArray, List.set_cons_zero, List.set_cons_succ])
    refine wpAnyH_ready (rs := [14]) (by as_aux_lemma => kernel_rfl) (by simp) ?_
    refine AllReadyH.cons (o := { dst := some 79, op := Op.call { callee := Callee.value (Operand.func 17), args := #[Operand.tmp 78], argTypes := #[24] }, type := 24, pos := "law.go:42", after := #[{ on := 13, ground := Ground.data }, { on := 12, ground := Ground.chain }, { on := 12, ground := Ground.guard }], guard := some (12, true) }) rfl (fun K hK => ?_) AllReadyH.nil
    go_simp
    (go_at_call 17; (with_reducible refine (neg_any (HA.out.ext (HEW.out.trans (((HE1.out.trans HE2.out).trans HE3.out).trans HE4.out))) (HT.out.ext (HEW.out.trans (((HE1.out.trans HE2.out).trans HE3.out).trans HE4.out)))).mono ?_); rw [En.out]; rintro e w5 ⟨A1, c1, rfl, hon, hx⟩; have HE5 := Lib.hid hx; have HI1 := Lib.hid (Dy.at_ hon Wn.out.1 Wn.out.2); clear hon; clear hx hk; have hk := HS.out _ ((((HE1.out.trans HE2.out).trans HE3.out).trans HE4.out).trans HE5.out))
    (try go_wp2_with fail)
    refine hK.out _ _ hk (fun hHeld' => ?_)
    clear hK K hHeld
    have hHeld := hHeld'
    clear hHeld'
    (try simp only [Act.put, List.setIfInBounds_toArray, List.set_cons_zero, List.set_cons_succ])
    refine wpAnyH_ready (rs := [16]) (by as_aux_lemma => kernel_rfl) (by simp) ?_
    refine AllReadyH.cons (o := { dst := some 81, op := Op.call { callee := Callee.value (Operand.func 17), args := #[Operand.tmp 80], argTypes := #[24] }, type := 24, pos := "law.go:42", after := #[{ on := 15, ground := Ground.data }, { on := 14, ground := Ground.chain }, { on := 12, ground := Ground.guard }], guard := some (12, true) }) rfl (fun K hK => ?_) AllReadyH.nil
    go_simp
    (go_at_call 17; (with_reducible refine (neg_any (HX.out.ext (HEW.out.trans ((((HE1.out.trans HE2.out).trans HE3.out).trans HE4.out).trans HE5.out))) (HT.out.ext (HEW.out.trans ((((HE1.out.trans HE2.out).trans HE3.out).trans HE4.out).trans HE5.out)))).mono ?_); rw [En.out]; rintro e w6 ⟨A2, c2, rfl, hon, hx⟩; have HE6 := Lib.hid hx; have HI2 := Lib.hid (Dy.at_ hon Wn.out.1 Wn.out.2); clear hon; clear hx hk; have hk := HS.out _ (((((HE1.out.trans HE2.out).trans HE3.out).trans HE4.out).trans HE5.out).trans HE6.out))
    (try go_wp2_with fail)
    refine hK.out _ _ hk (fun hHeld' => ?_)
    clear hK K hHeld
    have hHeld := hHeld'
    clear hHeld'
    (try simp only [Act.put, List.setIfInBounds_toArray, List.set_cons_zero, List.set_cons_succ])
    refine wpAnyH_ready (rs := [17]) (by as_aux_lemma => kernel_rfl) (by simp) ?_
    refine AllReadyH.cons (o := { dst := some 82, op := Op.call { callee := Callee.value (Operand.func 16), args := #[Operand.tmp 79, Operand.tmp 81], argTypes := #[24, 24] }, type := 4, pos := "law.go:42", after := #[{ on := 14, ground := Ground.data }, { on := 16, ground := Ground.data }, { on := 16, ground := Ground.chain }, { on := 12, ground := Ground.guard }], guard := some (12, true) }) rfl (fun K hK => ?_) AllReadyH.nil
    go_simp
    (go_at_call 16; (with_reducible refine (same_true (d := n) (HI1.out _ HE6.out).rd (HI2.out _ (Ext.refl _)).rd Ln.out).mono ?_); rintro e w7 ⟨rfl, hx⟩; have HE7 := Lib.hid hx; clear hx hk; have hk := HS.out _ ((((((HE1.out.trans HE2.out).trans HE3.out).trans HE4.out).trans HE5.out).trans HE6.out).trans HE7.out))
    (try go_wp2_with fail)
    refine hK.out _ _ hk (fun hHeld' => ?_)
    clear hK K hHeld
    have hHeld := hHeld'
    clear hHeld'
    (try simp only [Act.put, List.setIfInBounds_toArray, List.set_cons_zero, List.set_cons_succ])
    refine wpAnyH_take (i := 18) (oi := { dst := some 83, op := Op.pick (Operand.tmp 77) (Operand.tmp 82) (Operand.const (Value.bool false)), type := 4, pos := "law.go:41", after := #[{ on := 12, ground := Ground.data }, { on := 17, ground := Ground.data }], guard := none }) (v := ?_) rfl (by as_aux_lemma => kernel_rfl) (by as_aux_lemma => kernel_rfl) (by as_aux_lemma => kernel_rfl) (fun _ _ _ h => h) (Or.inl ⟨by rfl, ?hy⟩) hHeld ?_
    case hy => ((intro w' hSw; (try dsimp only at hSw); go_simp); (try with_reducible rfl))
    (try simp only [Act.put, List.setIfInBounds_toArray, List.set_cons_zero, List.set_cons_succ])
    refine wpAnyH_take (i := 19) (oi := { dst := some 84, op := Op.move (Operand.tmp 83), type := 4, pos := "law.go:41", after := #[{ on := 18, ground := Ground.data }, { on := 17, ground := Ground.chain }], guard := none }) (v := ?_) rfl (by as_aux_lemma => kernel_rfl) (by as_aux_lemma => kernel_rfl) (by as_aux_lemma => kernel_rfl) (fun _ _ _ h => h) (Or.inl ⟨by rfl, ?hy⟩) hHeld ?_
    case hy => ((intro w' hSw; (try dsimp only at hSw); go_simp); (try with_reducible rfl))
    (try simp only [Act.put, List.setIfInBounds_toArray, List.set_cons_zero, List.set_cons_succ])
    refine wpAnyH_take (i := 20) (oi := { dst := some 85, op := Op.load 24 (Operand.tmp 2), type := 24, pos := "law.go:41", after := #[{ on := 19, ground := Ground.guard }], guard := some (19, true) }) (v := ?_) rfl (by as_aux_lemma => kernel_rfl) (by as_aux_lemma => kernel_rfl) (by as_aux_lemma => kernel_rfl) (fun _ _ _ h => h) (Or.inl ⟨by rfl, ?hy⟩) hHeld ?_
    case hy => ((intro w' hSw; (try dsimp only at hSw); go_simp); (try with_reducible rfl))
    (try simp only [Act.put, List.setIfInBounds_toArray, List.set_cons_zero, List.set_cons_succ])
    refine wpAnyH_take (i := 22) (oi := { dst := some 87, op := Op.load 24 (Operand.tmp 5), type := 24, pos := "law.go:41", after := #[{ on := 19, ground := Ground.guard }], guard := some (19, true) }) (v := ?_) rfl (by as_aux_lemma => kernel_rfl) (by as_aux_lemma => kernel_rfl) (by as_aux_lemma => kernel_rfl) (fun _ _ _ h => h) (Or.inl ⟨by rfl, ?hy⟩) hHeld ?_
    case hy => ((intro w' hSw; (try dsimp only at hSw); go_simp); (try with_reducible rfl))
    (try simp only [Act.put, List.setIfInBounds_toArray, List.set_cons_zero, List.set_cons_succ])
    refine wpAnyH_ready (rs := [21]) (by as_aux_lemma => kernel_rfl) (by simp) ?_
    refine AllReadyH.cons (o := { dst := some 86, op := Op.call { callee := Callee.value (Operand.func 18), args := #[Operand.tmp 85], argTypes := #[24] }, type := 24, pos := "law.go:42", after := #[{ on := 20, ground := Ground.data }, { on := 19, ground := Ground.chain }, { on := 19, ground := Ground.guard }], guard := some (19, true) }) rfl (fun K hK => ?_) AllReadyH.nil
    go_simp
    (go_at_call 18; (with_reducible refine (abs_any (HA.out.ext (HEW.out.trans ((((((HE1.out.trans HE2.out).trans HE3.out).trans HE4.out).trans HE5.out).trans HE6.out).trans HE7.out))) (HT.out.ext (HEW.out.trans ((((((HE1.out.trans HE2.out).trans HE3.out).trans HE4.out).trans HE5.out).trans HE6.out).trans HE7.out)))).mono ?_); rw [Em.out]; rintro e w8 ⟨A3, c3, rfl, hon, hx⟩; have HE8 := Lib.hid hx; have HI3 := Lib.hid (Dy.at_ hon Wm.out.1 Wm.out.2); clear hon; clear hx hk; have hk := HS.out _ (((((((HE1.out.trans HE2.out).trans HE3.out).trans HE4.out).trans HE5.out).trans HE6.out).trans HE7.out).trans HE8.out))
    (try go_wp2_with fail)
    refine hK.out _ _ hk (fun hHeld' => ?_)
    clear hK K hHeld
    have hHeld := hHeld'
    clear hHeld'
    (try simp only [Act.put, List.setIfInBounds_toArray, List.set_cons_zero, List.set_cons_succ])
    refine wpAnyH_ready (rs := [23]) (by as_aux_lemma => kernel_rfl) (by simp) ?_
    refine AllReadyH.cons (o := { dst := some 88, op := Op.call { callee := Callee.value (Operand.func 18), args := #[Operand.tmp 87], argTypes := #[24] }, type := 24, pos := "law.go:42", after := #[{ on := 22, ground := Ground.data }, { on := 21, ground := Ground.chain }, { on := 19, ground := Ground.guard }], guard := some (19, true) }) rfl (fun K hK => ?_) AllReadyH.nil
    go_simp
    (go_at_call 18; (with_reducible refine (abs_any (HX.out.ext (HEW.out.trans (((((((HE1.out.trans HE2.out).trans HE3.out).trans HE4.out).trans HE5.out).trans HE6.out).trans HE7.out).trans HE8.out))) (HT.out.ext (HEW.out.trans (((((((HE1.out.trans HE2.out).trans HE3.out).trans HE4.out).trans HE5.out).trans HE6.out).trans HE7.out).trans HE8.out)))).mono ?_); rw [Em.out]; rintro e w9 ⟨A4, c4, rfl, hon, hx⟩; have HE9 := Lib.hid hx; have HI4 := Lib.hid (Dy.at_ hon Wm.out.1 Wm.out.2); clear hon; clear hx hk; have hk := HS.out _ ((((((((HE1.out.trans HE2.out).trans HE3.out).trans HE4.out).trans HE5.out).trans HE6.out).trans HE7.out).trans HE8.out).trans HE9.out))
    (try go_wp2_with fail)
    refine hK.out _ _ hk (fun hHeld' => ?_)
    clear hK K hHeld
    have hHeld := hHeld'
    clear hHeld'
    (try simp only [Act.put, List.setIfInBounds_toArray, List.set_cons_zero, List.set_cons_succ])
    refine wpAnyH_ready (rs := [24]) (by as_aux_lemma => kernel_rfl) (by simp) ?_
    refine AllReadyH.cons (o := { dst := some 89, op := Op.call { callee := Callee.value (Operand.func 16), args := #[Operand.tmp 86, Operand.tmp 88], argTypes := #[24, 24] }, type := 4, pos := "law.go:42", after := #[{ on := 21, ground := Ground.data }, { on := 23, ground := Ground.data }, { on := 23, ground := Ground.chain }, { on := 19, ground := Ground.guard }], guard := some (19, true) }) rfl (fun K hK => ?_) AllReadyH.nil
    go_simp
    (go_at_call 16; (with_reducible refine (same_true (d := m) (HI3.out _ HE9.out).rd (HI4.out _ (Ext.refl _)).rd Lm.out).mono ?_); rintro e w10 ⟨rfl, hx⟩; have HE10 := Lib.hid hx; clear hx hk; have hk := HS.out _ (((((((((HE1.out.trans HE2.out).trans HE3.out).trans HE4.out).trans HE5.out).trans HE6.out).trans HE7.out).trans HE8.out).trans HE9.out).trans HE10.out))
    (try go_wp2_with fail)
    refine hK.out _ _ hk (fun hHeld' => ?_)
    clear hK K hHeld
    have hHeld := hHeld'
    clear hHeld'
    (try simp only [Act.put, List.setIfInBounds_toArray, List.set_cons_zero, List.set_cons_succ])
    refine wpAnyH_take (i := 25) (oi := { dst := some 90, op := Op.pick (Operand.tmp 84) (Operand.tmp 89) (Operand.const (Value.bool false)), type := 4, pos := "law.go:41", after := #[{ on := 19, ground := Ground.data }, { on := 24, ground := Ground.data }], guard := none }) (v := ?_) rfl (by as_aux_lemma => kernel_rfl) (by as_aux_lemma => kernel_rfl) (by as_aux_lemma => kernel_rfl) (fun _ _ _ h => h) (Or.inl ⟨by rfl, ?hy⟩) hHeld ?_
    case hy => ((intro w' hSw; (try dsimp only at hSw); go_simp); (try with_reducible rfl))
    (try simp only [Act.put, List.setIfInBounds_toArray, List.set_cons_zero, List.set_cons_succ])
    refine wpAnyH_take (i := 26) (oi := { dst := some 91, op := Op.move (Operand.tmp 90), type := 4, pos := "law.go:41", after := #[{ on := 25, ground := Ground.data }, { on := 24, ground := Ground.chain }], guard := none }) (v := ?_) rfl (by as_aux_lemma => kernel_rfl) (by as_aux_lemma => kernel_rfl) (by as_aux_lemma => kernel_rfl) (fun _ _ _ h => h) (Or.inl ⟨by rfl, ?hy⟩) hHeld ?_
    case hy => ((intro w' hSw; (try dsimp only at hSw); go_simp); (try with_reducible rfl))
    (try simp only [Act.put, List.setIfInBounds_toArray, List.set_cons_zero, List.set_cons_succ])
    refine wpAnyH_take (i := 27) (oi := { dst := some 92, op := Op.load 24 (Operand.tmp 2), type := 24, pos := "law.go:41", after := #[{ on := 26, ground := Ground.guard }], guard := some (26, true) }) (v := ?_) rfl (by as_aux_lemma => kernel_rfl) (by as_aux_lemma => kernel_rfl) (by as_aux_lemma => kernel_rfl) (fun _ _ _ h => h) (Or.inl ⟨by rfl, ?hy⟩) hHeld ?_
    case hy => ((intro w' hSw; (try dsimp only at hSw); go_simp); (try with_reducible rfl))
    (try simp only [Act.put, List.setIfInBounds_toArray, List.set_cons_zero, List.set_cons_succ])
    refine wpAnyH_take (i := 29) (oi := { dst := some 94, op := Op.load 24 (Operand.tmp 5), type := 24, pos := "law.go:41", after := #[{ on := 26, ground := Ground.guard }], guard := some (26, true) }) (v := ?_) rfl (by as_aux_lemma => kernel_rfl) (by as_aux_lemma => kernel_rfl) (by as_aux_lemma => kernel_rfl) (fun _ _ _ h => h) (Or.inl ⟨by rfl, ?hy⟩) hHeld ?_
    case hy => ((intro w' hSw; (try dsimp only at hSw); go_simp); (try with_reducible rfl))
    (try simp only [Act.put, List.setIfInBounds_toArray, List.set_cons_zero, List.set_cons_succ])
    refine wpAnyH_ready (rs := [28]) (by as_aux_lemma => kernel_rfl) (by simp) ?_
    refine AllReadyH.cons (o := { dst := some 93, op := Op.call { callee := Callee.value (Operand.func 19), args := #[Operand.tmp 92], argTypes := #[24] }, type := 3, pos := "law.go:42", after := #[{ on := 27, ground := Ground.data }, { on := 26, ground := Ground.chain }, { on := 26, ground := Ground.guard }], guard := some (26, true) }) rfl (fun K hK => ?_) AllReadyH.nil
    go_simp
    (go_at_call 19; (with_reducible refine (sign_any (HA.out.ext (HEW.out.trans (((((((((HE1.out.trans HE2.out).trans HE3.out).trans HE4.out).trans HE5.out).trans HE6.out).trans HE7.out).trans HE8.out).trans HE9.out).trans HE10.out)))).mono ?_); rw [Cs.out]; rintro e w11 ⟨rfl, hx⟩; have HE11 := Lib.hid hx; clear hx hk; have hk := HS.out _ ((((((((((HE1.out.trans HE2.out).trans HE3.out).trans HE4.out).trans HE5.out).trans HE6.out).trans HE7.out).trans HE8.out).trans HE9.out).trans HE10.out).trans HE11.out))
    (try go_wp2_with fail)
    refine hK.out _ _ hk (fun hHeld' => ?_)
    clear hK K hHeld
    have hHeld := hHeld'
    clear hHeld'
    (try simp only [Act.put, List.setIfInBounds_toArray, List.set_cons_zero, List.set_cons_succ])
    refine wpAnyH_ready (rs := [30]) (by as_aux_lemma => kernel_rfl) (by simp) ?_
    refine AllReadyH.cons (o := { dst := some 95, op := Op.call { callee := Callee.value (Operand.func 19), args := #[Operand.tmp 94], argTypes := #[24] }, type := 3, pos := "law.go:42", after := #[{ on := 29, ground := Ground.data }, { on := 28, ground := Ground.chain }, { on := 26, ground := Ground.guard }], guard := some (26, true) }) rfl (fun K hK => ?_) AllReadyH.nil
    go_simp
    (go_at_call 19; (with_reducible refine (sign_any (HX.out.ext (HEW.out.trans ((((((((((HE1.out.trans HE2.out).trans HE3.out).trans HE4.out).trans HE5.out).trans HE6.out).trans HE7.out).trans HE8.out).trans HE9.out).trans HE10.out).trans HE11.out)))).mono ?_); rw [Cs.out]; rintro e w12 ⟨rfl, hx⟩; have HE12 := Lib.hid hx; clear hx hk; have hk := HS.out _ (((((((((((HE1.out.trans HE2.out).trans HE3.out).trans HE4.out).trans HE5.out).trans HE6.out).trans HE7.out).trans HE8.out).trans HE9.out).trans HE10.out).trans HE11.out).trans HE12.out))
    (try go_wp2_with fail)
    refine hK.out _ _ hk (fun hHeld' => ?_)
    clear hK K hHeld
    have hHeld := hHeld'
    clear hHeld'
    (try simp only [Act.put, List.setIfInBounds_toArray, List.set_cons_zero, List.set_cons_succ])
    refine wpAnyH_take (i := 31) (oi := { dst := some 96, op := Op.binOp BinOp.eql 3 (Operand.tmp 93) (Operand.tmp 95) 3, type := 4, pos := "law.go:41", after := #[{ on := 28, ground := Ground.data }, { on := 30, ground := Ground.data }, { on := 26, ground := Ground.guard }], guard := some (26, true) }) (v := ?_) rfl (by as_aux_lemma => kernel_rfl) (by as_aux_lemma => kernel_rfl) (by as_aux_lemma => kernel_rfl) (fun _ _ _ h => h) (Or.inl ⟨by rfl, ?hy⟩) hHeld ?_
    case hy => ((intro w' hSw; (try dsimp only at hSw); go_simp); (try with_reducible rfl))
    (try simp only [Act.put, List.setIfInBounds_toArray, List.set_cons_zero, List.set_cons_succ])
    refine wpAnyH_take (i := 32) (oi := { dst := some 97, op := Op.pick (Operand.tmp 91) (Operand.tmp 96) (Operand.const (Value.bool false)), type := 4, pos := "law.go:41", after := #[{ on := 26, ground := Ground.data }, { on := 31, ground := Ground.data }], guard := none }) (v := ?_) rfl (by as_aux_lemma => kernel_rfl) (by as_aux_lemma => kernel_rfl) (by as_aux_lemma => kernel_rfl) (fun _ _ _ h => h) (Or.inl ⟨by rfl, ?hy⟩) hHeld ?_
    case hy => ((intro w' hSw; (try dsimp only at hSw); go_simp); (try with_reducible rfl))
    (try simp only [Act.put, List.setIfInBounds_toArray, List.set_cons_zero, List.set_cons_succ])
    refine wpAnyH_take (i := 33) (oi := { dst := some 98, op := Op.move (Operand.tmp 97), type := 4, pos := "law.go:41", after := #[{ on := 32, ground := Ground.data }, { on := 30, ground := Ground.chain }], guard := none }) (v := ?_) rfl (by as_aux_lemma => kernel_rfl) (by as_aux_lemma => kernel_rfl) (by as_aux_lemma => kernel_rfl) (fun _ _ _ h => h) (Or.inl ⟨by rfl, ?hy⟩) hHeld ?_
    case hy => ((intro w' hSw; (try dsimp only at hSw); go_simp); (try with_reducible rfl))
    (try simp only [Act.put, List.setIfInBounds_toArray, List.set_cons_zero, List.set_cons_succ])
    refine wpAnyH_take (i := 34) (oi := { dst := some 99, op := Op.load 24 (Operand.tmp 2), type := 24, pos := "law.go:41", after := #[{ on := 33, ground := Ground.guard }], guard := some (33, true) }) (v := ?_) rfl (by as_aux_lemma => kernel_rfl) (by as_aux_lemma => kernel_rfl) (by as_aux_lemma => kernel_rfl) (fun _ _ _ h => h) (Or.inl ⟨by rfl, ?hy⟩) hHeld ?_
    case hy => ((intro w' hSw; (try dsimp only at hSw); go_simp); (try with_reducible rfl))
    (try simp only [Act.put, List.setIfInBounds_toArray, List.set_cons_zero, List.set_cons_succ])
    refine wpAnyH_take (i := 35) (oi := { dst := some 100, op := Op.load 24 (Operand.tmp 3), type := 24, pos := "law.go:41", after := #[{ on := 33, ground := Ground.guard }], guard := some (33, true) }) (v := ?_) rfl (by as_aux_lemma => kernel_rfl) (by as_aux_lemma => kernel_rfl) (by as_aux_lemma => kernel_rfl) (fun _ _ _ h => h) (Or.inl ⟨by rfl, ?hy⟩) hHeld ?_
    case hy => ((intro w' hSw; (try dsimp only at hSw); go_simp); (try with_reducible rfl))
    (try simp only [Act.put, List.setIfInBounds_toArray, List.set_cons_zero, List.set_cons_succ])
    refine wpAnyH_take (i := 37) (oi := { dst := some 102, op := Op.load 24 (Operand.tmp 5), type := 24, pos := "law.go:41", after := #[{ on := 33, ground := Ground.guard }], guard := some (33, true) }) (v := ?_) rfl (by as_aux_lemma => kernel_rfl) (by as_aux_lemma => kernel_rfl) (by as_aux_lemma => kernel_rfl) (fun _ _ _ h => h) (Or.inl ⟨by rfl, ?hy⟩) hHeld ?_
    case hy => ((intro w' hSw; (try dsimp only at hSw); go_simp); (try with_reducible rfl))
    (try simp only [Act.put, List.setIfInBounds_toArray, List.set_cons_zero, List.set_cons_succ])
    refine wpAnyH_take (i := 38) (oi := { dst := some 103, op := Op.load 24 (Operand.tmp 6), type := 24, pos := "law.go:41", after := #[{ on := 33, ground := Ground.guard }], guard := some (33, true) }) (v := ?_) rfl (by as_aux_lemma => kernel_rfl) (by as_aux_lemma => kernel_rfl) (by as_aux_lemma => kernel_rfl) (fun _ _ _ h => h) (Or.inl ⟨by rfl, ?hy⟩) hHeld ?_
    case hy => ((intro w' hSw; (try dsimp only at hSw); go_simp); (try with_reducible rfl))
    (try simp only [Act.put, List.setIfInBounds_toArray, List.set_cons_zero, List.set_cons_succ])
    refine wpAnyH_ready (rs := [36]) (by as_aux_lemma => kernel_rfl) (by simp) ?_
    refine AllReadyH.cons (o := { dst := some 101, op := Op.call { callee := Callee.value (Operand.func 20), args := #[Operand.tmp 99, Operand.tmp 100], argTypes := #[24, 24] }, type := 3, pos := "law.go:42", after := #[{ on := 34, ground := Ground.data }, { on := 35, ground := Ground.data }, { on := 33, ground := Ground.chain }, { on := 33, ground := Ground.guard }], guard := some (33, true) }) rfl (fun K hK => ?_) AllReadyH.nil
    go_simp
    (go_at_call 20; (with_reducible refine (cmp_any (HA.out.ext (HEW.out.trans (((((((((((HE1.out.trans HE2.out).trans HE3.out).trans HE4.out).trans HE5.out).trans HE6.out).trans HE7.out).trans HE8.out).trans HE9.out).trans HE10.out).trans HE11.out).trans HE12.out))) (HB.out.ext (HEW.out.trans (((((((((((HE1.out.trans HE2.out).trans HE3.out).trans HE4.out).trans HE5.out).trans HE6.out).trans HE7.out).trans HE8.out).trans HE9.out).trans HE10.out).trans HE11.out).trans HE12.out)))).mono ?_); rw [Cc.out]; rintro e w13 ⟨rfl, hx⟩; have HE13 := Lib.hid hx; clear hx hk; have hk := HS.out _ ((((((((((((HE1.out.trans HE2.out).trans HE3.out).trans HE4.out).trans HE5.out).trans HE6.out).trans HE7.out).trans HE8.out).trans HE9.out).trans HE10.out).trans HE11.out).trans HE12.out).trans HE13.out))
    (try go_wp2_with fail)
    refine hK.out _ _ hk (fun hHeld' => ?_)
    clear hK K hHeld
    have hHeld := hHeld'
    clear hHeld'
    (try simp only [Act.put, List.setIfInBounds_toArray, List.set_cons_zero, List.set_cons_succ])
    refine wpAnyH_ready (rs := [39]) (by as_aux_lemma => kernel_rfl) (by simp) ?_
    refine AllReadyH.cons (o := { dst := some 104, op := Op.call { callee := Callee.value (Operand.func 20), args := #[Operand.tmp 102, Operand.tmp 103], argTypes := #[24, 24] }, type := 3, pos := "law.go:42", after := #[{ on := 37, ground := Ground.data }, { on := 38, ground := Ground.data }, { on := 36, ground := Ground.chain }, { on := 33, ground := Ground.guard }], guard := some (33, true) }) rfl (fun K hK => ?_) AllReadyH.nil
    go_simp
    (go_at_call 20; (with_reducible refine (cmp_any (HX.out.ext (HEW.out.trans ((((((((((((HE1.out.trans HE2.out).trans HE3.out).trans HE4.out).trans HE5.out).trans HE6.out).trans HE7.out).trans HE8.out).trans HE9.out).trans HE10.out).trans HE11.out).trans HE12.out).trans HE13.out))) (HY.out.ext (HEW.out.trans ((((((((((((HE1.out.trans HE2.out).trans HE3.out).trans HE4.out).trans HE5.out).trans HE6.out).trans HE7.out).trans HE8.out).trans HE9.out).trans HE10.out).trans HE11.out).trans HE12.out).trans HE13.out)))).mono ?_); rw [Cc.out]; rintro e w14 ⟨rfl, hx⟩; have HE14 := Lib.hid hx; clear hx hk; have hk := HS.out _ (((((((((((((HE1.out.trans HE2.out).trans HE3.out).trans HE4.out).trans HE5.out).trans HE6.out).trans HE7.out).trans HE8.out).trans HE9.out).trans HE10.out).trans HE11.out).trans HE12.out).trans HE13.out).trans HE14.out))
    (try go_wp2_with fail)
    refine hK.out _ _ hk (fun hHeld' => ?_)
    clear hK K hHeld
    have hHeld := hHeld'
    clear hHeld'
    (try simp only [Act.put, List.setIfInBounds_toArray, List.set_cons_zero, List.set_cons_succ])
    refine wpAnyH_take (i := 40) (oi := { dst := some 105, op := Op.binOp BinOp.eql 3 (Operand.tmp 101) (Operand.tmp 104) 3, type := 4, pos := "law.go:41", after := #[{ on := 36, ground := Ground.data }, { on := 39, ground := Ground.data }, { on := 33, ground := Ground.guard }], guard := some (33, true) }) (v := ?_) rfl (by as_aux_lemma => kernel_rfl) (by as_aux_lemma => kernel_rfl) (by as_aux_lemma => kernel_rfl) (fun _ _ _ h => h) (Or.inl ⟨by rfl, ?hy⟩) hHeld ?_
    case hy => ((intro w' hSw; (try dsimp only at hSw); go_simp); (try with_reducible rfl))
    (try simp only [Act.put, List.setIfInBounds_toArray, List.set_cons_zero, List.set_cons_succ])
    refine wpAnyH_take (i := 41) (oi := { dst := some 106, op := Op.pick (Operand.tmp 98) (Operand.tmp 105) (Operand.const (Value.bool false)), type := 4, pos := "law.go:41", after := #[{ on := 33, ground := Ground.data }, { on := 40, ground := Ground.data }], guard := none }) (v := ?_) rfl (by as_aux_lemma => kernel_rfl) (by as_aux_lemma => kernel_rfl) (by as_aux_lemma => kernel_rfl) (fun _ _ _ h => h) (Or.inl ⟨by rfl, ?hy⟩) hHeld ?_
    case hy => ((intro w' hSw; (try dsimp only at hSw); go_simp); (try with_reducible rfl))
    (try simp only [Act.put, List.setIfInBounds_toArray, List.set_cons_zero, List.set_cons_succ])
    refine wpAnyH_take (i := 42) (oi := { dst := some 107, op := Op.move (Operand.tmp 106), type := 4, pos := "law.go:41", after := #[{ on := 41, ground := Ground.data }, { on := 39, ground := Ground.chain }], guard := none }) (v := ?_) rfl (by as_aux_lemma => kernel_rfl) (by as_aux_lemma => kernel_rfl) (by as_aux_lemma => kernel_rfl) (fun _ _ _ h => h) (Or.inl ⟨by rfl, ?hy⟩) hHeld ?_
    case hy => ((intro w' hSw; (try dsimp only at hSw); go_simp); (try with_reducible rfl))
    (try simp only [Act.put, List.setIfInBounds_toArray, List.set_cons_zero, List.set_cons_succ])
    refine wpAnyH_take (i := 43) (oi := { dst := some 108, op := Op.load 24 (Operand.tmp 2), type := 24, pos := "law.go:41", after := #[{ on := 42, ground := Ground.guard }], guard := some (42, true) }) (v := ?_) rfl (by as_aux_lemma => kernel_rfl) (by as_aux_lemma => kernel_rfl) (by as_aux_lemma => kernel_rfl) (fun _ _ _ h => h) (Or.inl ⟨by rfl, ?hy⟩) hHeld ?_
    case hy => ((intro w' hSw; (try dsimp only at hSw); go_simp); (try with_reducible rfl))
    (try simp only [Act.put, List.setIfInBounds_toArray, List.set_cons_zero, List.set_cons_succ])
    refine wpAnyH_take (i := 44) (oi := { dst := some 109, op := Op.load 24 (Operand.tmp 3), type := 24, pos := "law.go:41", after := #[{ on := 42, ground := Ground.guard }], guard := some (42, true) }) (v := ?_) rfl (by as_aux_lemma => kernel_rfl) (by as_aux_lemma => kernel_rfl) (by as_aux_lemma => kernel_rfl) (fun _ _ _ h => h) (Or.inl ⟨by rfl, ?hy⟩) hHeld ?_
    case hy => ((intro w' hSw; (try dsimp only at hSw); go_simp); (try with_reducible rfl))
    (try simp only [Act.put, List.setIfInBounds_toArray, List.set_cons_zero, List.set_cons_succ])
    refine wpAnyH_take (i := 46) (oi := { dst := some 111, op := Op.load 24 (Operand.tmp 5), type := 24, pos := "law.go:41", after := #[{ on := 42, ground := Ground.guard }], guard := some (42, true) }) (v := ?_) rfl (by as_aux_lemma => kernel_rfl) (by as_aux_lemma => kernel_rfl) (by as_aux_lemma => kernel_rfl) (fun _ _ _ h => h) (Or.inl ⟨by rfl, ?hy⟩) hHeld ?_
    case hy => ((intro w' hSw; (try dsimp only at hSw); go_simp); (try with_reducible rfl))
    (try simp only [Act.put, List.setIfInBounds_toArray, List.set_cons_zero, List.set_cons_succ])
    refine wpAnyH_take (i := 47) (oi := { dst := some 112, op := Op.load 24 (Operand.tmp 6), type := 24, pos := "law.go:41", after := #[{ on := 42, ground := Ground.guard }], guard := some (42, true) }) (v := ?_) rfl (by as_aux_lemma => kernel_rfl) (by as_aux_lemma => kernel_rfl) (by as_aux_lemma => kernel_rfl) (fun _ _ _ h => h) (Or.inl ⟨by rfl, ?hy⟩) hHeld ?_
    case hy => ((intro w' hSw; (try dsimp only at hSw); go_simp); (try with_reducible rfl))
    (try simp only [Act.put, List.setIfInBounds_toArray, List.set_cons_zero, List.set_cons_succ])
    refine wpAnyH_ready (rs := [45]) (by as_aux_lemma => kernel_rfl) (by simp) ?_
    refine AllReadyH.cons (o := { dst := some 110, op := Op.call { callee := Callee.value (Operand.func 21), args := #[Operand.tmp 108, Operand.tmp 109], argTypes := #[24, 24] }, type := 24, pos := "law.go:43", after := #[{ on := 43, ground := Ground.data }, { on := 44, ground := Ground.data }, { on := 42, ground := Ground.chain }, { on := 42, ground := Ground.guard }], guard := some (42, true) }) rfl (fun K hK => ?_) AllReadyH.nil
    go_simp
    (go_at_call 21; (with_reducible refine (min_any (HA.out.ext (HEW.out.trans (((((((((((((HE1.out.trans HE2.out).trans HE3.out).trans HE4.out).trans HE5.out).trans HE6.out).trans HE7.out).trans HE8.out).trans HE9.out).trans HE10.out).trans HE11.out).trans HE12.out).trans HE13.out).trans HE14.out))) (HB.out.ext (HEW.out.trans (((((((((((((HE1.out.trans HE2.out).trans HE3.out).trans HE4.out).trans HE5.out).trans HE6.out).trans HE7.out).trans HE8.out).trans HE9.out).trans HE10.out).trans HE11.out).trans HE12.out).trans HE13.out).trans HE14.out))) (HT.out.ext (HEW.out.trans (((((((((((((HE1.out.trans HE2.out).trans HE3.out).trans HE4.out).trans HE5.out).trans HE6.out).trans HE7.out).trans HE8.out).trans HE9.out).trans HE10.out).trans HE11.out).trans HE12.out).trans HE13.out).trans HE14.out)))).mono ?_); rw [Emi.out]; rintro e w15 ⟨A5, c5, rfl, hon, hx⟩; have HE15 := Lib.hid hx; have HI5 := Lib.hid (Dy.at_ hon Wmi.out.1 Wmi.out.2); clear hon; clear hx hk; have hk := HS.out _ ((((((((((((((HE1.out.trans HE2.out).trans HE3.out).trans HE4.out).trans HE5.out).trans HE6.out).trans HE7.out).trans HE8.out).trans HE9.out).trans HE10.out).trans HE11.out).trans HE12.out).trans HE13.out).trans HE14.out).trans HE15.out))
    (try go_wp2_with fail)
    refine hK.out _ _ hk (fun hHeld' => ?_)
    clear hK K hHeld
    have hHeld := hHeld'
    clear hHeld'
    (try simp only [Act.put, List.setIfInBounds_toArray, List.set_cons_zero, List.set_cons_succ])
    refine wpAnyH_ready (rs := [48]) (by as_aux_lemma => kernel_rfl) (by simp) ?_
    refine AllReadyH.cons (o := { dst := some 113, op := Op.call { callee := Callee.value (Operand.func 21), args := #[Operand.tmp 111, Operand.tmp 112], argTypes := #[24, 24] }, type := 24, pos := "law.go:43", after := #[{ on := 46, ground := Ground.data }, { on := 47, ground := Ground.data }, { on := 45, ground := Ground.chain }, { on := 42, ground := Ground.guard }], guard := some (42, true) }) rfl (fun K hK => ?_) AllReadyH.nil
    go_simp
    (go_at_call 21; (with_reducible refine (min_any (HX.out.ext (HEW.out.trans ((((((((((((((HE1.out.trans HE2.out).trans HE3.out).trans HE4.out).trans HE5.out).trans HE6.out).trans HE7.out).trans HE8.out).trans HE9.out).trans HE10.out).trans HE11.out).trans HE12.out).trans HE13.out).trans HE14.out).trans HE15.out))) (HY.out.ext (HEW.out.trans ((((((((((((((HE1.out.trans HE2.out).trans HE3.out).trans HE4.out).trans HE5.out).trans HE6.out).trans HE7.out).trans HE8.out).trans HE9.out).trans HE10.out).trans HE11.out).trans HE12.out).trans HE13.out).trans HE14.out).trans HE15.out))) (HT.out.ext (HEW.out.trans ((((((((((((((HE1.out.trans HE2.out).trans HE3.out).trans HE4.out).trans HE5.out).trans HE6.out).trans HE7.out).trans HE8.out).trans HE9.out).trans HE10.out).trans HE11.out).trans HE12.out).trans HE13.out).trans HE14.out).trans HE15.out)))).mono ?_); rw [Emi.out]; rintro e w16 ⟨A6, c6, rfl, hon, hx⟩; have HE16 := Lib.hid hx; have HI6 := Lib.hid (Dy.at_ hon Wmi.out.1 Wmi.out.2); clear hon; clear hx hk; have hk := HS.out _ (((((((((((((((HE1.out.trans HE2.out).trans HE3.out).trans HE4.out).trans HE5.out).trans HE6.out).trans HE7.out).trans HE8.out).trans HE9.out).trans HE10.out).trans HE11.out).trans HE12.out).trans HE13.out).trans HE14.out).trans HE15.out).trans HE16.out))
    (try go_wp2_with fail)
    refine hK.out _ _ hk (fun hHeld' => ?_)
    clear hK K hHeld
    have hHeld := hHeld'
    clear hHeld'
    (try simp only [Act.put, List.setIfInBounds_toArray, List.set_cons_zero, List.set_cons_succ])
    refine wpAnyH_ready (rs := [49]) (by as_aux_lemma => kernel_rfl) (by simp) ?_
    refine AllReadyH.cons (o := { dst := some 114, op := Op.call { callee := Callee.value (Operand.func 16), args := #[Operand.tmp 110, Operand.tmp 113], argTypes := #[24, 24] }, type := 4, pos := "law.go:43", after := #[{ on := 45, ground := Ground.data }, { on := 48, ground := Ground.data }, { on := 48, ground := Ground.chain }, { on := 42, ground := Ground.guard }], guard := some (42, true) }) rfl (fun K hK => ?_) AllReadyH.nil
    go_simp
    (go_at_call 16; (with_reducible refine (same_true (d := mi) (HI5.out _ HE16.out).rd (HI6.out _ (Ext.refl _)).rd Lmi.out).mono ?_); rintro e w17 ⟨rfl, hx⟩; have HE17 := Lib.hid hx; clear hx hk; have hk := HS.out _ ((((((((((((((((HE1.out.trans HE2.out).trans HE3.out).trans HE4.out).trans HE5.out).trans HE6.out).trans HE7.out).trans HE8.out).trans HE9.out).trans HE10.out).trans HE11.out).trans HE12.out).trans HE13.out).trans HE14.out).trans HE15.out).trans HE16.out).trans HE17.out))
    (try go_wp2_with fail)
    refine hK.out _ _ hk (fun hHeld' => ?_)
    clear hK K hHeld
    have hHeld := hHeld'
    clear hHeld'
    (try simp only [Act.put, List.setIfInBounds_toArray, List.set_cons_zero, List.set_cons_succ])
    refine wpAnyH_take (i := 50) (oi := { dst := some 115, op := Op.pick (Operand.tmp 107) (Operand.tmp 114) (Operand.const (Value.bool false)), type := 4, pos := "law.go:41", after := #[{ on := 42, ground := Ground.data }, { on := 49, ground := Ground.data }], guard := none }) (v := ?_) rfl (by as_aux_lemma => kernel_rfl) (by as_aux_lemma => kernel_rfl) (by as_aux_lemma => kernel_rfl) (fun _ _ _ h => h) (Or.inl ⟨by rfl, ?hy⟩) hHeld ?_
    case hy => ((intro w' hSw; (try dsimp only at hSw); go_simp); (try with_reducible rfl))
    (try simp only [Act.put, List.setIfInBounds_toArray, List.set_cons_zero, List.set_cons_succ])
    refine wpAnyH_take (i := 51) (oi := { dst := some 116, op := Op.move (Operand.tmp 115), type := 4, pos := "law.go:41", after := #[{ on := 50, ground := Ground.data }, { on := 49, ground := Ground.chain }], guard := none }) (v := ?_) rfl (by as_aux_lemma => kernel_rfl) (by as_aux_lemma => kernel_rfl) (by as_aux_lemma => kernel_rfl) (fun _ _ _ h => h) (Or.inl ⟨by rfl, ?hy⟩) hHeld ?_
    case hy => ((intro w' hSw; (try dsimp only at hSw); go_simp); (try with_reducible rfl))
    (try simp only [Act.put, List.setIfInBounds_toArray, List.set_cons_zero, List.set_cons_succ])
    refine wpAnyH_take (i := 52) (oi := { dst := some 117, op := Op.load 24 (Operand.tmp 2), type := 24, pos := "law.go:41", after := #[{ on := 51, ground := Ground.guard }], guard := some (51, true) }) (v := ?_) rfl (by as_aux_lemma => kernel_rfl) (by as_aux_lemma => kernel_rfl) (by as_aux_lemma => kernel_rfl) (fun _ _ _ h => h) (Or.inl ⟨by rfl, ?hy⟩) hHeld ?_
    case hy => ((intro w' hSw; (try dsimp only at hSw); go_simp); (try with_reducible rfl))
    (try simp only [Act.put, List.setIfInBounds_toArray, List.set_cons_zero, List.set_cons_succ])
    refine wpAnyH_take (i := 53) (oi := { dst := some 118, op := Op.load 24 (Operand.tmp 3), type := 24, pos := "law.go:41", after := #[{ on := 51, ground := Ground.guard }], guard := some (51, true) }) (v := ?_) rfl (by as_aux_lemma => kernel_rfl) (by as_aux_lemma => kernel_rfl) (by as_aux_lemma => kernel_rfl) (fun _ _ _ h => h) (Or.inl ⟨by rfl, ?hy⟩) hHeld ?_
    case hy => ((intro w' hSw; (try dsimp only at hSw); go_simp); (try with_reducible rfl))
    (try simp only [Act.put, List.setIfInBounds_toArray, List.set_cons_zero, List.set_cons_succ])
    refine wpAnyH_take (i := 55) (oi := { dst := some 120, op := Op.load 24 (Operand.tmp 5), type := 24, pos := "law.go:41", after := #[{ on := 51, ground := Ground.guard }], guard := some (51, true) }) (v := ?_) rfl (by as_aux_lemma => kernel_rfl) (by as_aux_lemma => kernel_rfl) (by as_aux_lemma => kernel_rfl) (fun _ _ _ h => h) (Or.inl ⟨by rfl, ?hy⟩) hHeld ?_
    case hy => ((intro w' hSw; (try dsimp only at hSw); go_simp); (try with_reducible rfl))
    (try simp only [Act.put, List.setIfInBounds_toArray, List.set_cons_zero, List.set_cons_succ])
    refine wpAnyH_take (i := 56) (oi := { dst := some 121, op := Op.load 24 (Operand.tmp 6), type := 24, pos := "law.go:41", after := #[{ on := 51, ground := Ground.guard }], guard := some (51, true) }) (v := ?_) rfl (by as_aux_lemma => kernel_rfl) (by as_aux_lemma => kernel_rfl) (by as_aux_lemma => kernel_rfl) (fun _ _ _ h => h) (Or.inl ⟨by rfl, ?hy⟩) hHeld ?_
    case hy => ((intro w' hSw; (try dsimp only at hSw); go_simp); (try with_reducible rfl))
    (try simp only [Act.put, List.setIfInBounds_toArray, List.set_cons_zero, List.set_cons_succ])
    refine wpAnyH_ready (rs := [54]) (by as_aux_lemma => kernel_rfl) (by simp) ?_
    refine AllReadyH.cons (o := { dst := some 119, op := Op.call { callee := Callee.value (Operand.func 22), args := #[Operand.tmp 117, Operand.tmp 118], argTypes := #[24, 24] }, type := 24, pos := "law.go:43", after := #[{ on := 52, ground := Ground.data }, { on := 53, ground := Ground.data }, { on := 51, ground := Ground.chain }, { on := 51, ground := Ground.guard }], guard := some (51, true) }) rfl (fun K hK => ?_) AllReadyH.nil
    go_simp
    (go_at_call 22; (with_reducible refine (max_any (HA.out.ext (HEW.out.trans ((((((((((((((((HE1.out.trans HE2.out).trans HE3.out).trans HE4.out).trans HE5.out).trans HE6.out).trans HE7.out).trans HE8.out).trans HE9.out).trans HE10.out).trans HE11.out).trans HE12.out).trans HE13.out).trans HE14.out).trans HE15.out).trans HE16.out).trans HE17.out))) (HB.out.ext (HEW.out.trans ((((((((((((((((HE1.out.trans HE2.out).trans HE3.out).trans HE4.out).trans HE5.out).trans HE6.out).trans HE7.out).trans HE8.out).trans HE9.out).trans HE10.out).trans HE11.out).trans HE12.out).trans HE13.out).trans HE14.out).trans HE15.out).trans HE16.out).trans HE17.out))) (HT.out.ext (HEW.out.trans ((((((((((((((((HE1.out.trans HE2.out).trans HE3.out).trans HE4.out).trans HE5.out).trans HE6.out).trans HE7.out).trans HE8.out).trans HE9.out).trans HE10.out).trans HE11.out).trans HE12.out).trans HE13.out).trans HE14.out).trans HE15.out).trans HE16.out).trans HE17.out)))).mono ?_); rw [Ema.out]; rintro e w18 ⟨A7, c7, rfl, hon, hx⟩; have HE18 := Lib.hid hx; have HI7 := Lib.hid (Dy.at_ hon Wma.out.1 Wma.out.2); clear hon; clear hx hk; have hk := HS.out _ (((((((((((((((((HE1.out.trans HE2.out).trans HE3.out).trans HE4.out).trans HE5.out).trans HE6.out).trans HE7.out).trans HE8.out).trans HE9.out).trans HE10.out).trans HE11.out).trans HE12.out).trans HE13.out).trans HE14.out).trans HE15.out).trans HE16.out).trans HE17.out).trans HE18.out))
    (try go_wp2_with fail)
    refine hK.out _ _ hk (fun hHeld' => ?_)
    clear hK K hHeld
    have hHeld := hHeld'
    clear hHeld'
    (try simp only [Act.put, List.setIfInBounds_toArray, List.set_cons_zero, List.set_cons_succ])
    refine wpAnyH_ready (rs := [57]) (by as_aux_lemma => kernel_rfl) (by simp) ?_
    refine AllReadyH.cons (o := { dst := some 122, op := Op.call { callee := Callee.value (Operand.func 22), args := #[Operand.tmp 120, Operand.tmp 121], argTypes := #[24, 24] }, type := 24, pos := "law.go:43", after := #[{ on := 55, ground := Ground.data }, { on := 56, ground := Ground.data }, { on := 54, ground := Ground.chain }, { on := 51, ground := Ground.guard }], guard := some (51, true) }) rfl (fun K hK => ?_) AllReadyH.nil
    go_simp
    (go_at_call 22; (with_reducible refine (max_any (HX.out.ext (HEW.out.trans (((((((((((((((((HE1.out.trans HE2.out).trans HE3.out).trans HE4.out).trans HE5.out).trans HE6.out).trans HE7.out).trans HE8.out).trans HE9.out).trans HE10.out).trans HE11.out).trans HE12.out).trans HE13.out).trans HE14.out).trans HE15.out).trans HE16.out).trans HE17.out).trans HE18.out))) (HY.out.ext (HEW.out.trans (((((((((((((((((HE1.out.trans HE2.out).trans HE3.out).trans HE4.out).trans HE5.out).trans HE6.out).trans HE7.out).trans HE8.out).trans HE9.out).trans HE10.out).trans HE11.out).trans HE12.out).trans HE13.out).trans HE14.out).trans HE15.out).trans HE16.out).trans HE17.out).trans HE18.out))) (HT.out.ext (HEW.out.trans (((((((((((((((((HE1.out.trans HE2.out).trans HE3.out).trans HE4.out).trans HE5.out).trans HE6.out).trans HE7.out).trans HE8.out).trans HE9.out).trans HE10.out).trans HE11.out).trans HE12.out).trans HE13.out).trans HE14.out).trans HE15.out).trans HE16.out).trans HE17.out).trans HE18.out)))).mono ?_); rw [Ema.out]; rintro e w19 ⟨A8, c8, rfl, hon, hx⟩; have HE19 := Lib.hid hx; have HI8 := Lib.hid (Dy.at_ hon Wma.out.1 Wma.out.2); clear hon; clear hx hk; have hk := HS.out _ ((((((((((((((((((HE1.out.trans HE2.out).trans HE3.out).trans HE4.out).trans HE5.out).trans HE6.out).trans HE7.out).trans HE8.out).trans HE9.out).trans HE10.out).trans HE11.out).trans HE12.out).trans HE13.out).trans HE14.out).trans HE15.out).trans HE16.out).trans HE17.out).trans HE18.out).trans HE19.out))
    (try go_wp2_with fail)
    refine hK.out _ _ hk (fun hHeld' => ?_)
    clear hK K hHeld
    have hHeld := hHeld'
    clear hHeld'
    (try simp only [Act.put, List.setIfInBounds_toArray, List.set_cons_zero, List.set_cons_succ])
    refine wpAnyH_ready (rs := [58]) (by as_aux_lemma => kernel_rfl) (by simp) ?_
    refine AllReadyH.cons (o := { dst := some 123, op := Op.call { callee := Callee.value (Operand.func 16), args := #[Operand.tmp 119, Operand.tmp 122], argTypes := #[24, 24] }, type := 4, pos := "law.go:43", after := #[{ on := 54, ground := Ground.data }, { on := 57, ground := Ground.data }, { on := 57, ground := Ground.chain }, { on := 51, ground := Ground.guard }], guard := some (51, true) }) rfl (fun K hK => ?_) AllReadyH.nil
    go_simp
    (go_at_call 16; (with_reducible refine (same_true (d := ma) (HI7.out _ HE19.out).rd (HI8.out _ (Ext.refl _)).rd Lma.out).mono ?_); rintro e w20 ⟨rfl, hx⟩; have HE20 := Lib.hid hx; clear hx hk; have hk := HS.out _ (((((((((((((((((((HE1.out.trans HE2.out).trans HE3.out).trans HE4.out).trans HE5.out).trans HE6.out).trans HE7.out).trans HE8.out).trans HE9.out).trans HE10.out).trans HE11.out).trans HE12.out).trans HE13.out).trans HE14.out).trans HE15.out).trans HE16.out).trans HE17.out).trans HE18.out).trans HE19.out).trans HE20.out))
    (try go_wp2_with fail)
    refine hK.out _ _ hk (fun hHeld' => ?_)
    clear hK K hHeld
    have hHeld := hHeld'
    clear hHeld'
    (try simp only [Act.put, List.setIfInBounds_toArray, List.set_cons_zero, List.set_cons_succ])
    refine wpAnyH_take (i := 59) (oi := { dst := some 124, op := Op.pick (Operand.tmp 116) (Operand.tmp 123) (Operand.const (Value.bool false)), type := 4, pos := "law.go:41", after := #[{ on := 51, ground := Ground.data }, { on := 58, ground := Ground.data }], guard := none }) (v := ?_) rfl (by as_aux_lemma => kernel_rfl) (by as_aux_lemma => kernel_rfl) (by as_aux_lemma => kernel_rfl) (fun _ _ _ h => h) (Or.inl ⟨by rfl, ?hy⟩) hHeld ?_
    case hy => ((intro w' hSw; (try dsimp only at hSw); go_simp); (try with_reducible rfl))
    (try simp only [Act.put, List.setIfInBounds_toArray, List.set_cons_zero, List.set_cons_succ])
    refine wpAnyH_take (i := 60) (oi := { dst := some 125, op := Op.move (Operand.tmp 124), type := 4, pos := "law.go:41", after := #[{ on := 59, ground := Ground.data }, { on := 58, ground := Ground.chain }], guard := none }) (v := ?_) rfl (by as_aux_lemma => kernel_rfl) (by as_aux_lemma => kernel_rfl) (by as_aux_lemma => kernel_rfl) (fun _ _ _ h => h) (Or.inl ⟨by rfl, ?hy⟩) hHeld ?_
    case hy => ((intro w' hSw; (try dsimp only at hSw); go_simp); (try with_reducible rfl))
    (try simp only [Act.put, List.setIfInBounds_toArray, List.set_cons_zero, List.set_cons_succ])
    refine wpAnyH_take (i := 61) (oi := { dst := some 126, op := Op.load 24 (Operand.tmp 2), type := 24, pos := "law.go:41", after := #[{ on := 60, ground := Ground.guard }], guard := some (60, true) }) (v := ?_) rfl (by as_aux_lemma => kernel_rfl) (by as_aux_lemma => kernel_rfl) (by as_aux_lemma => kernel_rfl) (fun _ _ _ h => h) (Or.inl ⟨by rfl, ?hy⟩) hHeld ?_
    case hy => ((intro w' hSw; (try dsimp only at hSw); go_simp); (try with_reducible rfl))
    (try simp only [Act.put, List.setIfInBounds_toArray, List.set_cons_zero, List.set_cons_succ])
    refine wpAnyH_take (i := 62) (oi := { dst := some 127, op := Op.load 24 (Operand.tmp 3), type := 24, pos := "law.go:41", after := #[{ on := 60, ground := Ground.guard }], guard := some (60, true) }) (v := ?_) rfl (by as_aux_lemma => kernel_rfl) (by as_aux_lemma => kernel_rfl) (by as_aux_lemma => kernel_rfl) (fun _ _ _ h => h) (Or.inl ⟨by rfl, ?hy⟩) hHeld ?_
    case hy => ((intro w' hSw; (try dsimp only at hSw); go_simp); (try with_reducible rfl))
    (try simp only [Act.put, List.setIfInBounds_toArray, List.set_cons_zero, List.set_cons_succ])
    refine wpAnyH_take (i := 64) (oi := { dst := some 129, op := Op.load 24 (Operand.tmp 5), type := 24, pos := "law.go:41", after := #[{ on := 60, ground := Ground.guard }], guard := some (60, true) }) (v := ?_) rfl (by as_aux_lemma => kernel_rfl) (by as_aux_lemma => kernel_rfl) (by as_aux_lemma => kernel_rfl) (fun _ _ _ h => h) (Or.inl ⟨by rfl, ?hy⟩) hHeld ?_
    case hy => ((intro w' hSw; (try dsimp only at hSw); go_simp); (try with_reducible rfl))
    (try simp only [Act.put, List.setIfInBounds_toArray, List.set_cons_zero, List.set_cons_succ])
    refine wpAnyH_take (i := 65) (oi := { dst := some 130, op := Op.load 24 (Operand.tmp 6), type := 24, pos := "law.go:41", after := #[{ on := 60, ground := Ground.guard }], guard := some (60, true) }) (v := ?_) rfl (by as_aux_lemma => kernel_rfl) (by as_aux_lemma => kernel_rfl) (by as_aux_lemma => kernel_rfl) (fun _ _ _ h => h) (Or.inl ⟨by rfl, ?hy⟩) hHeld ?_
    case hy => ((intro w' hSw; (try dsimp only at hSw); go_simp); (try with_reducible rfl))
    (try simp only [Act.put, List.setIfInBounds_toArray, List.set_cons_zero, List.set_cons_succ])
    refine wpAnyH_ready (rs := [63]) (by as_aux_lemma => kernel_rfl) (by simp) ?_
    refine AllReadyH.cons (o := { dst := some 128, op := Op.call { callee := Callee.value (Operand.func 23), args := #[Operand.tmp 126, Operand.tmp 127], argTypes := #[24, 24] }, type := 24, pos := "law.go:43", after := #[{ on := 61, ground := Ground.data }, { on := 62, ground := Ground.data }, { on := 60, ground := Ground.chain }, { on := 60, ground := Ground.guard }], guard := some (60, true) }) rfl (fun K hK => ?_) AllReadyH.nil
    go_simp
    (go_at_call 23; (with_reducible refine (add_any (HA.out.ext (HEW.out.trans (((((((((((((((((((HE1.out.trans HE2.out).trans HE3.out).trans HE4.out).trans HE5.out).trans HE6.out).trans HE7.out).trans HE8.out).trans HE9.out).trans HE10.out).trans HE11.out).trans HE12.out).trans HE13.out).trans HE14.out).trans HE15.out).trans HE16.out).trans HE17.out).trans HE18.out).trans HE19.out).trans HE20.out))) (HB.out.ext (HEW.out.trans (((((((((((((((((((HE1.out.trans HE2.out).trans HE3.out).trans HE4.out).trans HE5.out).trans HE6.out).trans HE7.out).trans HE8.out).trans HE9.out).trans HE10.out).trans HE11.out).trans HE12.out).trans HE13.out).trans HE14.out).trans HE15.out).trans HE16.out).trans HE17.out).trans HE18.out).trans HE19.out).trans HE20.out))) (HT.out.ext (HEW.out.trans (((((((((((((((((((HE1.out.trans HE2.out).trans HE3.out).trans HE4.out).trans HE5.out).trans HE6.out).trans HE7.out).trans HE8.out).trans HE9.out).trans HE10.out).trans HE11.out).trans HE12.out).trans HE13.out).trans HE14.out).trans HE15.out).trans HE16.out).trans HE17.out).trans HE18.out).trans HE19.out).trans HE20.out)))).mono ?_); rw [Eab.out]; rintro e w21 ⟨A9, c9, rfl, hon, hx⟩; have HE21 := Lib.hid hx; have HI9 := Lib.hid (Dy.at_ hon Wab.out.1 Wab.out.2); clear hon; clear hx hk; have hk := HS.out _ ((((((((((((((((((((HE1.out.trans HE2.out).trans HE3.out).trans HE4.out).trans HE5.out).trans HE6.out).trans HE7.out).trans HE8.out).trans HE9.out).trans HE10.out).trans HE11.out).trans HE12.out).trans HE13.out).trans HE14.out).trans HE15.out).trans HE16.out).trans HE17.out).trans HE18.out).trans HE19.out).trans HE20.out).trans HE21.out))
    (try go_wp2_with fail)
    refine hK.out _ _ hk (fun hHeld' => ?_)
    clear hK K hHeld
    have hHeld := hHeld'
    clear hHeld'
    (try simp only [Act.put, List.setIfInBounds_toArray, List.set_cons_zero, List.set_cons_succ])
    refine wpAnyH_ready (rs := [66]) (by as_aux_lemma => kernel_rfl) (by simp) ?_
    refine AllReadyH.cons (o := { dst := some 131, op := Op.call { callee := Callee.value (Operand.func 23), args := #[Operand.tmp 129, Operand.tmp 130], argTypes := #[24, 24] }, type := 24, pos := "law.go:43", after := #[{ on := 64, ground := Ground.data }, { on := 65, ground := Ground.data }, { on := 63, ground := Ground.chain }, { on := 60, ground := Ground.guard }], guard := some (60, true) }) rfl (fun K hK => ?_) AllReadyH.nil
    go_simp
    (go_at_call 23; (with_reducible refine (add_any (HX.out.ext (HEW.out.trans ((((((((((((((((((((HE1.out.trans HE2.out).trans HE3.out).trans HE4.out).trans HE5.out).trans HE6.out).trans HE7.out).trans HE8.out).trans HE9.out).trans HE10.out).trans HE11.out).trans HE12.out).trans HE13.out).trans HE14.out).trans HE15.out).trans HE16.out).trans HE17.out).trans HE18.out).trans HE19.out).trans HE20.out).trans HE21.out))) (HY.out.ext (HEW.out.trans ((((((((((((((((((((HE1.out.trans HE2.out).trans HE3.out).trans HE4.out).trans HE5.out).trans HE6.out).trans HE7.out).trans HE8.out).trans HE9.out).trans HE10.out).trans HE11.out).trans HE12.out).trans HE13.out).trans HE14.out).trans HE15.out).trans HE16.out).trans HE17.out).trans HE18.out).trans HE19.out).trans HE20.out).trans HE21.out))) (HT.out.ext (HEW.out.trans ((((((((((((((((((((HE1.out.trans HE2.out).trans HE3.out).trans HE4.out).trans HE5.out).trans HE6.out).trans HE7.out).trans HE8.out).trans HE9.out).trans HE10.out).trans HE11.out).trans HE12.out).trans HE13.out).trans HE14.out).trans HE15.out).trans HE16.out).trans HE17.out).trans HE18.out).trans HE19.out).trans HE20.out).trans HE21.out)))).mono ?_); rw [Eab.out]; rintro e w22 ⟨A10, c10, rfl, hon, hx⟩; have HE22 := Lib.hid hx; have HI10 := Lib.hid (Dy.at_ hon Wab.out.1 Wab.out.2); clear hon; clear hx hk; have hk := HS.out _ (((((((((((((((((((((HE1.out.trans HE2.out).trans HE3.out).trans HE4.out).trans HE5.out).trans HE6.out).trans HE7.out).trans HE8.out).trans HE9.out).trans HE10.out).trans HE11.out).trans HE12.out).trans HE13.out).trans HE14.out).trans HE15.out).trans HE16.out).trans HE17.out).trans HE18.out).trans HE19.out).trans HE20.out).trans HE21.out).trans HE22.out))
    (try go_wp2_with fail)
    refine hK.out _ _ hk (fun hHeld' => ?_)
    clear hK K hHeld
    have hHeld := hHeld'
    clear hHeld'
    (try simp only [Act.put, List.setIfInBounds_toArray, List.set_cons_zero, List.set_cons_succ])
    refine wpAnyH_ready (rs := [67]) (by as_aux_lemma => kernel_rfl) (by simp) ?_
    refine AllReadyH.cons (o := { dst := some 132, op := Op.call { callee := Callee.value (Operand.func 16), args := #[Operand.tmp 128, Operand.tmp 131], argTypes := #[24, 24] }, type := 4, pos := "law.go:43", after := #[{ on := 63, ground := Ground.data }, { on := 66, ground := Ground.data }, { on := 66, ground := Ground.chain }, { on := 60, ground := Ground.guard }], guard := some (60, true) }) rfl (fun K hK => ?_) AllReadyH.nil
    go_simp
    (go_at_call 16; (with_reducible refine (same_true (d := ab) (HI9.out _ HE22.out).rd (HI10.out _ (Ext.refl _)).rd Lab.out).mono ?_); rintro e w23 ⟨rfl, hx⟩; have HE23 := Lib.hid hx; clear hx hk; have hk := HS.out _ ((((((((((((((((((((((HE1.out.trans HE2.out).trans HE3.out).trans HE4.out).trans HE5.out).trans HE6.out).trans HE7.out).trans HE8.out).trans HE9.out).trans HE10.out).trans HE11.out).trans HE12.out).trans HE13.out).trans HE14.out).trans HE15.out).trans HE16.out).trans HE17.out).trans HE18.out).trans HE19.out).trans HE20.out).trans HE21.out).trans HE22.out).trans HE23.out))
    (try go_wp2_with fail)
    refine hK.out _ _ hk (fun hHeld' => ?_)
    clear hK K hHeld
    have hHeld := hHeld'
    clear hHeld'
    (try simp only [Act.put, List.setIfInBounds_toArray, List.set_cons_zero, List.set_cons_succ])
    refine wpAnyH_take (i := 68) (oi := { dst := some 133, op := Op.pick (Operand.tmp 125) (Operand.tmp 132) (Operand.const (Value.bool false)), type := 4, pos := "law.go:41", after := #[{ on := 60, ground := Ground.data }, { on := 67, ground := Ground.data }], guard := none }) (v := ?_) rfl (by as_aux_lemma => kernel_rfl) (by as_aux_lemma => kernel_rfl) (by as_aux_lemma => kernel_rfl) (fun _ _ _ h => h) (Or.inl ⟨by rfl, ?hy⟩) hHeld ?_
    case hy => ((intro w' hSw; (try dsimp only at hSw); go_simp); (try with_reducible rfl))
    (try simp only [Act.put, List.setIfInBounds_toArray, List.set_cons_zero, List.set_cons_succ])
    refine wpAnyH_take (i := 69) (oi := { dst := some 134, op := Op.move (Operand.tmp 133), type := 4, pos := "law.go:41", after := #[{ on := 68, ground := Ground.data }, { on := 67, ground := Ground.chain }], guard := none }) (v := ?_) rfl (by as_aux_lemma => kernel_rfl) (by as_aux_lemma => kernel_rfl) (by as_aux_lemma => kernel_rfl) (fun _ _ _ h => h) (Or.inl ⟨by rfl, ?hy⟩) hHeld ?_
    case hy => ((intro w' hSw; (try dsimp only at hSw); go_simp); (try with_reducible rfl))
    (try simp only [Act.put, List.setIfInBounds_toArray, List.set_cons_zero, List.set_cons_succ])
    refine wpAnyH_take (i := 70) (oi := { dst := some 135, op := Op.load 24 (Operand.tmp 2), type := 24, pos := "law.go:41", after := #[{ on := 69, ground := Ground.guard }], guard := some (69, true) }) (v := ?_) rfl (by as_aux_lemma => kernel_rfl) (by as_aux_lemma => kernel_rfl) (by as_aux_lemma => kernel_rfl) (fun _ _ _ h => h) (Or.inl ⟨by rfl, ?hy⟩) hHeld ?_
    case hy => ((intro w' hSw; (try dsimp only at hSw); go_simp); (try with_reducible rfl))
    (try simp only [Act.put, List.setIfInBounds_toArray, List.set_cons_zero, List.set_cons_succ])
    refine wpAnyH_take (i := 71) (oi := { dst := some 136, op := Op.load 24 (Operand.tmp 3), type := 24, pos := "law.go:41", after := #[{ on := 69, ground := Ground.guard }], guard := some (69, true) }) (v := ?_) rfl (by as_aux_lemma => kernel_rfl) (by as_aux_lemma => kernel_rfl) (by as_aux_lemma => kernel_rfl) (fun _ _ _ h => h) (Or.inl ⟨by rfl, ?hy⟩) hHeld ?_
    case hy => ((intro w' hSw; (try dsimp only at hSw); go_simp); (try with_reducible rfl))
    (try simp only [Act.put, List.setIfInBounds_toArray, List.set_cons_zero, List.set_cons_succ])
    refine wpAnyH_take (i := 73) (oi := { dst := some 138, op := Op.load 24 (Operand.tmp 5), type := 24, pos := "law.go:41", after := #[{ on := 69, ground := Ground.guard }], guard := some (69, true) }) (v := ?_) rfl (by as_aux_lemma => kernel_rfl) (by as_aux_lemma => kernel_rfl) (by as_aux_lemma => kernel_rfl) (fun _ _ _ h => h) (Or.inl ⟨by rfl, ?hy⟩) hHeld ?_
    case hy => ((intro w' hSw; (try dsimp only at hSw); go_simp); (try with_reducible rfl))
    (try simp only [Act.put, List.setIfInBounds_toArray, List.set_cons_zero, List.set_cons_succ])
    refine wpAnyH_take (i := 74) (oi := { dst := some 139, op := Op.load 24 (Operand.tmp 6), type := 24, pos := "law.go:41", after := #[{ on := 69, ground := Ground.guard }], guard := some (69, true) }) (v := ?_) rfl (by as_aux_lemma => kernel_rfl) (by as_aux_lemma => kernel_rfl) (by as_aux_lemma => kernel_rfl) (fun _ _ _ h => h) (Or.inl ⟨by rfl, ?hy⟩) hHeld ?_
    case hy => ((intro w' hSw; (try dsimp only at hSw); go_simp); (try with_reducible rfl))
    (try simp only [Act.put, List.setIfInBounds_toArray, List.set_cons_zero, List.set_cons_succ])
    refine wpAnyH_ready (rs := [72]) (by as_aux_lemma => kernel_rfl) (by simp) ?_
    refine AllReadyH.cons (o := { dst := some 137, op := Op.call { callee := Callee.value (Operand.func 24), args := #[Operand.tmp 135, Operand.tmp 136], argTypes := #[24, 24] }, type := 24, pos := "law.go:44", after := #[{ on := 70, ground := Ground.data }, { on := 71, ground := Ground.data }, { on := 69, ground := Ground.chain }, { on := 69, ground := Ground.guard }], guard := some (69, true) }) rfl (fun K hK => ?_) AllReadyH.nil
    go_simp
    (go_at_call 24; (with_reducible refine (sub_any (HA.out.ext (HEW.out.trans ((((((((((((((((((((((HE1.out.trans HE2.out).trans HE3.out).trans HE4.out).trans HE5.out).trans HE6.out).trans HE7.out).trans HE8.out).trans HE9.out).trans HE10.out).trans HE11.out).trans HE12.out).trans HE13.out).trans HE14.out).trans HE15.out).trans HE16.out).trans HE17.out).trans HE18.out).trans HE19.out).trans HE20.out).trans HE21.out).trans HE22.out).trans HE23.out))) (HB.out.ext (HEW.out.trans ((((((((((((((((((((((HE1.out.trans HE2.out).trans HE3.out).trans HE4.out).trans HE5.out).trans HE6.out).trans HE7.out).trans HE8.out).trans HE9.out).trans HE10.out).trans HE11.out).trans HE12.out).trans HE13.out).trans HE14.out).trans HE15.out).trans HE16.out).trans HE17.out).trans HE18.out).trans HE19.out).trans HE20.out).trans HE21.out).trans HE22.out).trans HE23.out))) (HT.out.ext (HEW.out.trans ((((((((((((((((((((((HE1.out.trans HE2.out).trans HE3.out).trans HE4.out).trans HE5.out).trans HE6.out).trans HE7.out).trans HE8.out).trans HE9.out).trans HE10.out).trans HE11.out).trans HE12.out).trans HE13.out).trans HE14.out).trans HE15.out).trans HE16.out).trans HE17.out).trans HE18.out).trans HE19.out).trans HE20.out).trans HE21.out).trans HE22.out).trans HE23.out)))).mono ?_); rw [Esb.out]; rintro e w24 ⟨A11, c11, rfl, hon, hx⟩; have HE24 := Lib.hid hx; have HI11 := Lib.hid (Dy.at_ hon Wsb.out.1 Wsb.out.2); clear hon; clear hx hk; have hk := HS.out _ (((((((((((((((((((((((HE1.out.trans HE2.out).trans HE3.out).trans HE4.out).trans HE5.out).trans HE6.out).trans HE7.out).trans HE8.out).trans HE9.out).trans HE10.out).trans HE11.out).trans HE12.out).trans HE13.out).trans HE14.out).trans HE15.out).trans HE16.out).trans HE17.out).trans HE18.out).trans HE19.out).trans HE20.out).trans HE21.out).trans HE22.out).trans HE23.out).trans HE24.out))
    (try go_wp2_with fail)
    refine hK.out _ _ hk (fun hHeld' => ?_)
    clear hK K hHeld
    have hHeld := hHeld'
    clear hHeld'
    (try simp only [Act.put, List.setIfInBounds_toArray, List.set_cons_zero, List.set_cons_succ])
    refine wpAnyH_ready (rs := [75]) (by as_aux_lemma => kernel_rfl) (by simp) ?_
    refine AllReadyH.cons (o := { dst := some 140, op := Op.call { callee := Callee.value (Operand.func 24), args := #[Operand.tmp 138, Operand.tmp 139], argTypes := #[24, 24] }, type := 24, pos := "law.go:44", after := #[{ on := 73, ground := Ground.data }, { on := 74, ground := Ground.data }, { on := 72, ground := Ground.chain }, { on := 69, ground := Ground.guard }], guard := some (69, true) }) rfl (fun K hK => ?_) AllReadyH.nil
    go_simp
    (go_at_call 24; (with_reducible refine (sub_any (HX.out.ext (HEW.out.trans (((((((((((((((((((((((HE1.out.trans HE2.out).trans HE3.out).trans HE4.out).trans HE5.out).trans HE6.out).trans HE7.out).trans HE8.out).trans HE9.out).trans HE10.out).trans HE11.out).trans HE12.out).trans HE13.out).trans HE14.out).trans HE15.out).trans HE16.out).trans HE17.out).trans HE18.out).trans HE19.out).trans HE20.out).trans HE21.out).trans HE22.out).trans HE23.out).trans HE24.out))) (HY.out.ext (HEW.out.trans (((((((((((((((((((((((HE1.out.trans HE2.out).trans HE3.out).trans HE4.out).trans HE5.out).trans HE6.out).trans HE7.out).trans HE8.out).trans HE9.out).trans HE10.out).trans HE11.out).trans HE12.out).trans HE13.out).trans HE14.out).trans HE15.out).trans HE16.out).trans HE17.out).trans HE18.out).trans HE19.out).trans HE20.out).trans HE21.out).trans HE22.out).trans HE23.out).trans HE24.out))) (HT.out.ext (HEW.out.trans (((((((((((((((((((((((HE1.out.trans HE2.out).trans HE3.out).trans HE4.out).trans HE5.out).trans HE6.out).trans HE7.out).trans HE8.out).trans HE9.out).trans HE10.out).trans HE11.out).trans HE12.out).trans HE13.out).trans HE14.out).trans HE15.out).trans HE16.out).trans HE17.out).trans HE18.out).trans HE19.out).trans HE20.out).trans HE21.out).trans HE22.out).trans HE23.out).trans HE24.out)))).mono ?_); rw [Esb.out]; rintro e w25 ⟨A12, c12, rfl, hon, hx⟩; have HE25 := Lib.hid hx; have HI12 := Lib.hid (Dy.at_ hon Wsb.out.1 Wsb.out.2); clear hon; clear hx hk; have hk := HS.out _ ((((((((((((((((((((((((HE1.out.trans HE2.out).trans HE3.out).trans HE4.out).trans HE5.out).trans HE6.out).trans HE7.out).trans HE8.out).trans HE9.out).trans HE10.out).trans HE11.out).trans HE12.out).trans HE13.out).trans HE14.out).trans HE15.out).trans HE16.out).trans HE17.out).trans HE18.out).trans HE19.out).trans HE20.out).trans HE21.out).trans HE22.out).trans HE23.out).trans HE24.out).trans HE25.out))
    (try go_wp2_with fail)
    refine hK.out _ _ hk (fun hHeld' => ?_)
    clear hK K hHeld
    have hHeld := hHeld'
    clear hHeld'
    (try simp only [Act.put, List.setIfInBounds_toArray, List.set_cons_zero, List.set_cons_succ])
    refine wpAnyH_ready (rs := [76]) (by as_aux_lemma => kernel_rfl) (by simp) ?_
    refine AllReadyH.cons (o := { dst := some 141, op := Op.call { callee := Callee.value (Operand.func 16), args := #[Operand.tmp 137, Operand.tmp 140], argTypes := #[24, 24] }, type := 4, pos := "law.go:44", after := #[{ on := 72, ground := Ground.data }, { on := 75, ground := Ground.data }, { on := 75, ground := Ground.chain }, { on := 69, ground := Ground.guard }], guard := some (69, true) }) rfl (fun K hK => ?_) AllReadyH.nil
    go_simp
    (go_at_call 16; (with_reducible refine (same_true (d := sb) (HI11.out _ HE25.out).rd (HI12.out _ (Ext.refl _)).rd Lsb.out).mono ?_); rintro e w26 ⟨rfl, hx⟩; have HE26 := Lib.hid hx; clear hx hk; have hk := HS.out _ (((((((((((((((((((((((((HE1.out.trans HE2.out).trans HE3.out).trans HE4.out).trans HE5.out).trans HE6.out).trans HE7.out).trans HE8.out).trans HE9.out).trans HE10.out).trans HE11.out).trans HE12.out).trans HE13.out).trans HE14.out).trans HE15.out).trans HE16.out).trans HE17.out).trans HE18.out).trans HE19.out).trans HE20.out).trans HE21.out).trans HE22.out).trans HE23.out).trans HE24.out).trans HE25.out).trans HE26.out))
    (try go_wp2_with fail)
    refine hK.out _ _ hk (fun hHeld' => ?_)
    clear hK K hHeld
    have hHeld := hHeld'
    clear hHeld'
    (try simp only [Act.put, List.setIfInBounds_toArray, List.set_cons_zero, List.set_cons_succ])
    refine wpAnyH_take (i := 77) (oi := { dst := some 142, op := Op.pick (Operand.tmp 134) (Operand.tmp 141) (Operand.const (Value.bool false)), type := 4, pos := "law.go:41", after := #[{ on := 69, ground := Ground.data }, { on := 76, ground := Ground.data }], guard := none }) (v := ?_) rfl (by as_aux_lemma => kernel_rfl) (by as_aux_lemma => kernel_rfl) (by as_aux_lemma => kernel_rfl) (fun _ _ _ h => h) (Or.inl ⟨by rfl, ?hy⟩) hHeld ?_
    case hy => ((intro w' hSw; (try dsimp only at hSw); go_simp); (try with_reducible rfl))
    (try simp only [Act.put, List.setIfInBounds_toArray, List.set_cons_zero, List.set_cons_succ])
    refine wpAnyH_take (i := 78) (oi := { dst := some 143, op := Op.move (Operand.tmp 142), type := 4, pos := "law.go:41", after := #[{ on := 77, ground := Ground.data }, { on := 76, ground := Ground.chain }], guard := none }) (v := ?_) rfl (by as_aux_lemma => kernel_rfl) (by as_aux_lemma => kernel_rfl) (by as_aux_lemma => kernel_rfl) (fun _ _ _ h => h) (Or.inl ⟨by rfl, ?hy⟩) hHeld ?_
    case hy => ((intro w' hSw; (try dsimp only at hSw); go_simp); (try with_reducible rfl))
    (try simp only [Act.put, List.setIfInBounds_toArray, List.set_cons_zero, List.set_cons_succ])
    refine wpAnyH_take (i := 79) (oi := { dst := some 144, op := Op.load 24 (Operand.tmp 2), type := 24, pos := "law.go:41", after := #[{ on := 78, ground := Ground.guard }], guard := some (78, true) }) (v := ?_) rfl (by as_aux_lemma => kernel_rfl) (by as_aux_lemma => kernel_rfl) (by as_aux_lemma => kernel_rfl) (fun _ _ _ h => h) (Or.inl ⟨by rfl, ?hy⟩) hHeld ?_
    case hy => ((intro w' hSw; (try dsimp only at hSw); go_simp); (try with_reducible rfl))
    (try simp only [Act.put, List.setIfInBounds_toArray, List.set_cons_zero, List.set_cons_succ])
    refine wpAnyH_take (i := 80) (oi := { dst := some 145, op := Op.load 24 (Operand.tmp 3), type := 24, pos := "law.go:41", after := #[{ on := 78, ground := Ground.guard }], guard := some (78, true) }) (v := ?_) rfl (by as_aux_lemma => kernel_rfl) (by as_aux_lemma => kernel_rfl) (by as_aux_lemma => kernel_rfl) (fun _ _ _ h => h) (Or.inl ⟨by rfl, ?hy⟩) hHeld ?_
    case hy => ((intro w' hSw; (try dsimp only at hSw); go_simp); (try with_reducible rfl))
    (try simp only [Act.put, List.setIfInBounds_toArray, List.set_cons_zero, List.set_cons_succ])
    refine wpAnyH_take (i := 82) (oi := { dst := some 147, op := Op.load 24 (Operand.tmp 5), type := 24, pos := "law.go:41", after := #[{ on := 78, ground := Ground.guard }], guard := some (78, true) }) (v := ?_) rfl (by as_aux_lemma => kernel_rfl) (by as_aux_lemma => kernel_rfl) (by as_aux_lemma => kernel_rfl) (fun _ _ _ h => h) (Or.inl ⟨by rfl, ?hy⟩) hHeld ?_
    case hy => ((intro w' hSw; (try dsimp only at hSw); go_simp); (try with_reducible rfl))
    (try simp only [Act.put, List.setIfInBounds_toArray, List.set_cons_zero, List.set_cons_succ])
    refine wpAnyH_take (i := 83) (oi := { dst := some 148, op := Op.load 24 (Operand.tmp 6), type := 24, pos := "law.go:41", after := #[{ on := 78, ground := Ground.guard }], guard := some (78, true) }) (v := ?_) rfl (by as_aux_lemma => kernel_rfl) (by as_aux_lemma => kernel_rfl) (by as_aux_lemma => kernel_rfl) (fun _ _ _ h => h) (Or.inl ⟨by rfl, ?hy⟩) hHeld ?_
    case hy => ((intro w' hSw; (try dsimp only at hSw); go_simp); (try with_reducible rfl))
    (try simp only [Act.put, List.setIfInBounds_toArray, List.set_cons_zero, List.set_cons_succ])
    refine wpAnyH_ready (rs := [81]) (by as_aux_lemma => kernel_rfl) (by simp) ?_
    refine AllReadyH.cons (o := { dst := some 146, op := Op.call { callee := Callee.value (Operand.func 25), args := #[Operand.tmp 144, Operand.tmp 145], argTypes := #[24, 24] }, type := 24, pos := "law.go:44", after := #[{ on := 79, ground := Ground.data }, { on := 80, ground := Ground.data }, { on := 78, ground := Ground.chain }, { on := 78, ground := Ground.guard }], guard := some (78, true) }) rfl (fun K hK => ?_) AllReadyH.nil
    go_simp
    (go_at_call 25; (with_reducible refine (mul_any (HA.out.ext (HEW.out.trans (((((((((((((((((((((((((HE1.out.trans HE2.out).trans HE3.out).trans HE4.out).trans HE5.out).trans HE6.out).trans HE7.out).trans HE8.out).trans HE9.out).trans HE10.out).trans HE11.out).trans HE12.out).trans HE13.out).trans HE14.out).trans HE15.out).trans HE16.out).trans HE17.out).trans HE18.out).trans HE19.out).trans HE20.out).trans HE21.out).trans HE22.out).trans HE23.out).trans HE24.out).trans HE25.out).trans HE26.out))) (HB.out.ext (HEW.out.trans (((((((((((((((((((((((((HE1.out.trans HE2.out).trans HE3.out).trans HE4.out).trans HE5.out).trans HE6.out).trans HE7.out).trans HE8.out).trans HE9.out).trans HE10.out).trans HE11.out).trans HE12.out).trans HE13.out).trans HE14.out).trans HE15.out).trans HE16.out).trans HE17.out).trans HE18.out).trans HE19.out).trans HE20.out).trans HE21.out).trans HE22.out).trans HE23.out).trans HE24.out).trans HE25.out).trans HE26.out))) (HT.out.ext (HEW.out.trans (((((((((((((((((((((((((HE1.out.trans HE2.out).trans HE3.out).trans HE4.out).trans HE5.out).trans HE6.out).trans HE7.out).trans HE8.out).trans HE9.out).trans HE10.out).trans HE11.out).trans HE12.out).trans HE13.out).trans HE14.out).trans HE15.out).trans HE16.out).trans HE17.out).trans HE18.out).trans HE19.out).trans HE20.out).trans HE21.out).trans HE22.out).trans HE23.out).trans HE24.out).trans HE25.out).trans HE26.out)))).mono ?_); rw [Eml.out]; rintro e w27 ⟨A13, c13, rfl, hon, hx⟩; have HE27 := Lib.hid hx; have HI13 := Lib.hid (Dy.at_ hon Wml.out.1 Wml.out.2); clear hon; clear hx hk; have hk := HS.out _ ((((((((((((((((((((((((((HE1.out.trans HE2.out).trans HE3.out).trans HE4.out).trans HE5.out).trans HE6.out).trans HE7.out).trans HE8.out).trans HE9.out).trans HE10.out).trans HE11.out).trans HE12.out).trans HE13.out).trans HE14.out).trans HE15.out).trans HE16.out).trans HE17.out).trans HE18.out).trans HE19.out).trans HE20.out).trans HE21.out).trans HE22.out).trans HE23.out).trans HE24.out).trans HE25.out).trans HE26.out).trans HE27.out))
    (try go_wp2_with fail)
    refine hK.out _ _ hk (fun hHeld' => ?_)
    clear hK K hHeld
    have hHeld := hHeld'
    clear hHeld'
    (try simp only [Act.put, List.setIfInBounds_toArray, List.set_cons_zero, List.set_cons_succ])
    refine wpAnyH_ready (rs := [84]) (by as_aux_lemma => kernel_rfl) (by simp) ?_
    refine AllReadyH.cons (o := { dst := some 149, op := Op.call { callee := Callee.value (Operand.func 25), args := #[Operand.tmp 147, Operand.tmp 148], argTypes := #[24, 24] }, type := 24, pos := "law.go:44", after := #[{ on := 82, ground := Ground.data }, { on := 83, ground := Ground.data }, { on := 81, ground := Ground.chain }, { on := 78, ground := Ground.guard }], guard := some (78, true) }) rfl (fun K hK => ?_) AllReadyH.nil
    go_simp
    (go_at_call 25; (with_reducible refine (mul_any (HX.out.ext (HEW.out.trans ((((((((((((((((((((((((((HE1.out.trans HE2.out).trans HE3.out).trans HE4.out).trans HE5.out).trans HE6.out).trans HE7.out).trans HE8.out).trans HE9.out).trans HE10.out).trans HE11.out).trans HE12.out).trans HE13.out).trans HE14.out).trans HE15.out).trans HE16.out).trans HE17.out).trans HE18.out).trans HE19.out).trans HE20.out).trans HE21.out).trans HE22.out).trans HE23.out).trans HE24.out).trans HE25.out).trans HE26.out).trans HE27.out))) (HY.out.ext (HEW.out.trans ((((((((((((((((((((((((((HE1.out.trans HE2.out).trans HE3.out).trans HE4.out).trans HE5.out).trans HE6.out).trans HE7.out).trans HE8.out).trans HE9.out).trans HE10.out).trans HE11.out).trans HE12.out).trans HE13.out).trans HE14.out).trans HE15.out).trans HE16.out).trans HE17.out).trans HE18.out).trans HE19.out).trans HE20.out).trans HE21.out).trans HE22.out).trans HE23.out).trans HE24.out).trans HE25.out).trans HE26.out).trans HE27.out))) (HT.out.ext (HEW.out.trans ((((((((((((((((((((((((((HE1.out.trans HE2.out).trans HE3.out).trans HE4.out).trans HE5.out).trans HE6.out).trans HE7.out).trans HE8.out).trans HE9.out).trans HE10.out).trans HE11.out).trans HE12.out).trans HE13.out).trans HE14.out).trans HE15.out).trans HE16.out).trans HE17.out).trans HE18.out).trans HE19.out).trans HE20.out).trans HE21.out).trans HE22.out).trans HE23.out).trans HE24.out).trans HE25.out).trans HE26.out).trans HE27.out)))).mono ?_); rw [Eml.out]; rintro e w28 ⟨A14, c14, rfl, hon, hx⟩; have HE28 := Lib.hid hx; have HI14 := Lib.hid (Dy.at_ hon Wml.out.1 Wml.out.2); clear hon; clear hx hk; have hk := HS.out _ (((((((((((((((((((((((((((HE1.out.trans HE2.out).trans HE3.out).trans HE4.out).trans HE5.out).trans HE6.out).trans HE7.out).trans HE8.out).trans HE9.out).trans HE10.out).trans HE11.out).trans HE12.out).trans HE13.out).trans HE14.out).trans HE15.out).trans HE16.out).trans HE17.out).trans HE18.out).trans HE19.out).trans HE20.out).trans HE21.out).trans HE22.out).trans HE23.out).trans HE24.out).trans HE25.out).trans HE26.out).trans HE27.out).trans HE28.out))
    (try go_wp2_with fail)
    refine hK.out _ _ hk (fun hHeld' => ?_)
    clear hK K hHeld
    have hHeld := hHeld'
    clear hHeld'
    (try simp only [Act.put, List.setIfInBounds_toArray, List.set_cons_zero, List.set_cons_succ])
    refine wpAnyH_ready (rs := [85]) (by as_aux_lemma => kernel_rfl) (by simp) ?_
    refine AllReadyH.cons (o := { dst := some 150, op := Op.call { callee := Callee.value (Operand.func 16), args := #[Operand.tmp 146, Operand.tmp 149], argTypes := #[24, 24] }, type := 4, pos := "law.go:44", after := #[{ on := 81, ground := Ground.data }, { on := 84, ground := Ground.data }, { on := 84, ground := Ground.chain }, { on := 78, ground := Ground.guard }], guard := some (78, true) }) rfl (fun K hK => ?_) AllReadyH.nil
    go_simp
    (go_at_call 16; (with_reducible refine (same_true (d := ml) (HI13.out _ HE28.out).rd (HI14.out _ (Ext.refl _)).rd Lml.out).mono ?_); rintro e w29 ⟨rfl, hx⟩; have HE29 := Lib.hid hx; clear hx hk; have hk := HS.out _ ((((((((((((((((((((((((((((HE1.out.trans HE2.out).trans HE3.out).trans HE4.out).trans HE5.out).trans HE6.out).trans HE7.out).trans HE8.out).trans HE9.out).trans HE10.out).trans HE11.out).trans HE12.out).trans HE13.out).trans HE14.out).trans HE15.out).trans HE16.out).trans HE17.out).trans HE18.out).trans HE19.out).trans HE20.out).trans HE21.out).trans HE22.out).trans HE23.out).trans HE24.out).trans HE25.out).trans HE26.out).trans HE27.out).trans HE28.out).trans HE29.out))
    (try go_wp2_with fail)
    refine hK.out _ _ hk (fun hHeld' => ?_)
    clear hK K hHeld
    have hHeld := hHeld'
    clear hHeld'
    (try simp only [Act.put, List.setIfInBounds_toArray, List.set_cons_zero, List.set_cons_succ])
    refine wpAnyH_take (i := 86) (oi := { dst := some 151, op := Op.pick (Operand.tmp 143) (Operand.tmp 150) (Operand.const (Value.bool false)), type := 4, pos := "law.go:41", after := #[{ on := 78, ground := Ground.data }, { on := 85, ground := Ground.data }], guard := none }) (v := ?_) rfl (by as_aux_lemma => kernel_rfl) (by as_aux_lemma => kernel_rfl) (by as_aux_lemma => kernel_rfl) (fun _ _ _ h => h) (Or.inl ⟨by rfl, ?hy⟩) hHeld ?_
    case hy => ((intro w' hSw; (try dsimp only at hSw); go_simp); (try with_reducible rfl))
    (try simp only [Act.put, List.setIfInBounds_toArray, List.set_cons_zero, List.set_cons_succ])
    refine wpAnyH_take (i := 87) (oi := { dst := some 152, op := Op.move (Operand.tmp 151), type := 4, pos := "law.go:41", after := #[{ on := 86, ground := Ground.data }, { on := 85, ground := Ground.chain }], guard := none }) (v := ?_) rfl (by as_aux_lemma => kernel_rfl) (by as_aux_lemma => kernel_rfl) (by as_aux_lemma => kernel_rfl) (fun _ _ _ h => h) (Or.inl ⟨by rfl, ?hy⟩) hHeld ?_
    case hy => ((intro w' hSw; (try dsimp only at hSw); go_simp); (try with_reducible rfl))
    (try simp only [Act.put, List.setIfInBounds_toArray, List.set_cons_zero, List.set_cons_succ])
    refine wpAnyH_take (i := 88) (oi := { dst := some 153, op := Op.load 24 (Operand.tmp 2), type := 24, pos := "law.go:41", after := #[{ on := 87, ground := Ground.guard }], guard := some (87, true) }) (v := ?_) rfl (by as_aux_lemma => kernel_rfl) (by as_aux_lemma => kernel_rfl) (by as_aux_lemma => kernel_rfl) (fun _ _ _ h => h) (Or.inl ⟨by rfl, ?hy⟩) hHeld ?_
    case hy => ((intro w' hSw; (try dsimp only at hSw); go_simp); (try with_reducible rfl))
    (try simp only [Act.put, List.setIfInBounds_toArray, List.set_cons_zero, List.set_cons_succ])
    refine wpAnyH_take (i := 90) (oi := { dst := some 155, op := Op.load 24 (Operand.tmp 5), type := 24, pos := "law.go:41", after := #[{ on := 87, ground := Ground.guard }], guard := some (87, true) }) (v := ?_) rfl (by as_aux_lemma => kernel_rfl) (by as_aux_lemma => kernel_rfl) (by as_aux_lemma => kernel_rfl) (fun _ _ _ h => h) (Or.inl ⟨by rfl, ?hy⟩) hHeld ?_
    case hy => ((intro w' hSw; (try dsimp only at hSw); go_simp); (try with_reducible rfl))
    (try simp only [Act.put, List.setIfInBounds_toArray, List.set_cons_zero, List.set_cons_succ])
    refine wpAnyH_ready (rs := [89]) (by as_aux_lemma => kernel_rfl) (by simp) ?_
    refine AllReadyH.cons (o := { dst := some 154, op := Op.call { callee := Callee.value (Operand.func 26), args := #[Operand.tmp 153, Operand.const (Value.int IntKind.i64 5)], argTypes := #[24, 3] }, type := 24, pos := "law.go:44", after := #[{ on := 88, ground := Ground.data }, { on := 87, ground := Ground.chain }, { on := 87, ground := Ground.guard }], guard := some (87, true) }) rfl (fun K hK => ?_) AllReadyH.nil
    go_simp
    (go_at_call 26; (with_reducible refine (shift_any 5 (HA.out.ext (HEW.out.trans ((((((((((((((((((((((((((((HE1.out.trans HE2.out).trans HE3.out).trans HE4.out).trans HE5.out).trans HE6.out).trans HE7.out).trans HE8.out).trans HE9.out).trans HE10.out).trans HE11.out).trans HE12.out).trans HE13.out).trans HE14.out).trans HE15.out).trans HE16.out).trans HE17.out).trans HE18.out).trans HE19.out).trans HE20.out).trans HE21.out).trans HE22.out).trans HE23.out).trans HE24.out).trans HE25.out).trans HE26.out).trans HE27.out).trans HE28.out).trans HE29.out))) (HT.out.ext (HEW.out.trans ((((((((((((((((((((((((((((HE1.out.trans HE2.out).trans HE3.out).trans HE4.out).trans HE5.out).trans HE6.out).trans HE7.out).trans HE8.out).trans HE9.out).trans HE10.out).trans HE11.out).trans HE12.out).trans HE13.out).trans HE14.out).trans HE15.out).trans HE16.out).trans HE17.out).trans HE18.out).trans HE19.out).trans HE20.out).trans HE21.out).trans HE22.out).trans HE23.out).trans HE24.out).trans HE25.out).trans HE26.out).trans HE27.out).trans HE28.out).trans HE29.out))) (by omega) (by omega)).mono ?_); rw [Esh.out]; rintro e w30 ⟨A15, c15, rfl, hon, hx⟩; have HE30 := Lib.hid hx; have HI15 := Lib.hid (Dy.at_ hon Wsh.out.1 Wsh.out.2); clear hon; clear hx hk; have hk := HS.out _ (((((((((((((((((((((((((((((HE1.out.trans HE2.out).trans HE3.out).trans HE4.out).trans HE5.out).trans HE6.out).trans HE7.out).trans HE8.out).trans HE9.out).trans HE10.out).trans HE11.out).trans HE12.out).trans HE13.out).trans HE14.out).trans HE15.out).trans HE16.out).trans HE17.out).trans HE18.out).trans HE19.out).trans HE20.out).trans HE21.out).trans HE22.out).trans HE23.out).trans HE24.out).trans HE25.out).trans HE26.out).trans HE27.out).trans HE28.out).trans HE29.out).trans HE30.out))
    (try go_wp2_with fail)
    refine hK.out _ _ hk (fun hHeld' => ?_)
    clear hK K hHeld
    have hHeld := hHeld'
    clear hHeld'
    (try simp only [Act.put, List.setIfInBounds_toArray, List.set_cons_zero, List.set_cons_succ])
    refine wpAnyH_ready (rs := [91]) (by as_aux_lemma => kernel_rfl) (by simp) ?_
    refine AllReadyH.cons (o := { dst := some 156, op := Op.call { callee := Callee.value (Operand.func 26), args := #[Operand.tmp 155, Operand.const (Value.int IntKind.i64 5)], argTypes := #[24, 3] }, type := 24, pos := "law.go:44", after := #[{ on := 90, ground := Ground.data }, { on := 89, ground := Ground.chain }, { on := 87, ground := Ground.guard }], guard := some (87, true) }) rfl (fun K hK => ?_) AllReadyH.nil
    go_simp
    (go_at_call 26; (with_reducible refine (shift_any 5 (HX.out.ext (HEW.out.trans (((((((((((((((((((((((((((((HE1.out.trans HE2.out).trans HE3.out).trans HE4.out).trans HE5.out).trans HE6.out).trans HE7.out).trans HE8.out).trans HE9.out).trans HE10.out).trans HE11.out).trans HE12.out).trans HE13.out).trans HE14.out).trans HE15.out).trans HE16.out).trans HE17.out).trans HE18.out).trans HE19.out).trans HE20.out).trans HE21.out).trans HE22.out).trans HE23.out).trans HE24.out).trans HE25.out).trans HE26.out).trans HE27.out).trans HE28.out).trans HE29.out).trans HE30.out))) (HT.out.ext (HEW.out.trans (((((((((((((((((((((((((((((HE1.out.trans HE2.out).trans HE3.out).trans HE4.out).trans HE5.out).trans HE6.out).trans HE7.out).trans HE8.out).trans HE9.out).trans HE10.out).trans HE11.out).trans HE12.out).trans HE13.out).trans HE14.out).trans HE15.out).trans HE16.out).trans HE17.out).trans HE18.out).trans HE19.out).trans HE20.out).trans HE21.out).trans HE22.out).trans HE23.out).trans HE24.out).trans HE25.out).trans HE26.out).trans HE27.out).trans HE28.out).trans HE29.out).trans HE30.out))) (by omega) (by omega)).mono ?_); rw [Esh.out]; rintro e w31 ⟨A16, c16, rfl, hon, hx⟩; have HE31 := Lib.hid hx; have HI16 := Lib.hid (Dy.at_ hon Wsh.out.1 Wsh.out.2); clear hon; clear hx hk; have hk := HS.out _ ((((((((((((((((((((((((((((((HE1.out.trans HE2.out).trans HE3.out).trans HE4.out).trans HE5.out).trans HE6.out).trans HE7.out).trans HE8.out).trans HE9.out).trans HE10.out).trans HE11.out).trans HE12.out).trans HE13.out).trans HE14.out).trans HE15.out).trans HE16.out).trans HE17.out).trans HE18.out).trans HE19.out).trans HE20.out).trans HE21.out).trans HE22.out).trans HE23.out).trans HE24.out).trans HE25.out).trans HE26.out).trans HE27.out).trans HE28.out).trans HE29.out).trans HE30.out).trans HE31.out))
    (try go_wp2_with fail)
    refine hK.out _ _ hk (fun hHeld' => ?_)
    clear hK K hHeld
    have hHeld := hHeld'
    clear hHeld'
    (try simp only [Act.put, List.setIfInBounds_toArray, List.set_cons_zero, List.set_cons_succ])
    refine wpAnyH_ready (rs := [92]) (by as_aux_lemma => kernel_rfl) (by simp) ?_
    refine AllReadyH.cons (o := { dst := some 157, op := Op.call { callee := Callee.value (Operand.func 16), args := #[Operand.tmp 154, Operand.tmp 156], argTypes := #[24, 24] }, type := 4, pos := "law.go:44", after := #[{ on := 89, ground := Ground.data }, { on := 91, ground := Ground.data }, { on := 91, ground := Ground.chain }, { on := 87, ground := Ground.guard }], guard := some (87, true) }) rfl (fun K hK => ?_) AllReadyH.nil
    go_simp
    (go_at_call 16; (with_reducible refine (same_true (d := sh) (HI15.out _ HE31.out).rd (HI16.out _ (Ext.refl _)).rd Lsh.out).mono ?_); rintro e w32 ⟨rfl, hx⟩; have HE32 := Lib.hid hx; clear hx hk; have hk := HS.out _ (((((((((((((((((((((((((((((((HE1.out.trans HE2.out).trans HE3.out).trans HE4.out).trans HE5.out).trans HE6.out).trans HE7.out).trans HE8.out).trans HE9.out).trans HE10.out).trans HE11.out).trans HE12.out).trans HE13.out).trans HE14.out).trans HE15.out).trans HE16.out).trans HE17.out).trans HE18.out).trans HE19.out).trans HE20.out).trans HE21.out).trans HE22.out).trans HE23.out).trans HE24.out).trans HE25.out).trans HE26.out).trans HE27.out).trans HE28.out).trans HE29.out).trans HE30.out).trans HE31.out).trans HE32.out))
    (try go_wp2_with fail)
    refine hK.out _ _ hk (fun hHeld' => ?_)
    clear hK K hHeld
    have hHeld := hHeld'
    clear hHeld'
    (try simp only [Act.put, List.setIfInBounds_toArray, List.set_cons_zero, List.set_cons_succ])
    refine wpAnyH_take (i := 93) (oi := { dst := some 158, op := Op.pick (Operand.tmp 152) (Operand.tmp 157) (Operand.const (Value.bool false)), type := 4, pos := "law.go:41", after := #[{ on := 87, ground := Ground.data }, { on := 92, ground := Ground.data }], guard := none }) (v := ?_) rfl (by as_aux_lemma => kernel_rfl) (by as_aux_lemma => kernel_rfl) (by as_aux_lemma => kernel_rfl) (fun _ _ _ h => h) (Or.inl ⟨by rfl, ?hy⟩) hHeld ?_
    case hy => ((intro w' hSw; (try dsimp only at hSw); go_simp); (try with_reducible rfl))
    (try simp only [Act.put, List.setIfInBounds_toArray, List.set_cons_zero, List.set_cons_succ])
    refine wpAnyH_take (i := 94) (oi := { dst := some 159, op := Op.move (Operand.tmp 158), type := 4, pos := "law.go:41", after := #[{ on := 93, ground := Ground.data }, { on := 92, ground := Ground.chain }], guard := none }) (v := ?_) rfl (by as_aux_lemma => kernel_rfl) (by as_aux_lemma => kernel_rfl) (by as_aux_lemma => kernel_rfl) (fun _ _ _ h => h) (Or.inl ⟨by rfl, ?hy⟩) hHeld ?_
    case hy => ((intro w' hSw; (try dsimp only at hSw); go_simp); (try with_reducible rfl))
    (try simp only [Act.put, List.setIfInBounds_toArray, List.set_cons_zero, List.set_cons_succ])
    refine wpAnyH_take (i := 95) (oi := { dst := some 160, op := Op.load 24 (Operand.tmp 7), type := 24, pos := "law.go:41", after := #[{ on := 94, ground := Ground.guard }], guard := some (94, true) }) (v := ?_) rfl (by as_aux_lemma => kernel_rfl) (by as_aux_lemma => kernel_rfl) (by as_aux_lemma => kernel_rfl) (fun _ _ _ h => h) (Or.inl ⟨by rfl, ?hy⟩) hHeld ?_
    case hy => ((intro w' hSw; (try dsimp only at hSw); go_simp); (try with_reducible rfl))
    (try simp only [Act.put, List.setIfInBounds_toArray, List.set_cons_zero, List.set_cons_succ])
    refine wpAnyH_take (i := 96) (oi := { dst := some 161, op := Op.load 24 (Operand.tmp 9), type := 24, pos := "law.go:41", after := #[{ on := 94, ground := Ground.guard }], guard := some (94, true) }) (v := ?_) rfl (by as_aux_lemma => kernel_rfl) (by as_aux_lemma => kernel_rfl) (by as_aux_lemma => kernel_rfl) (fun _ _ _ h => h) (Or.inl ⟨by rfl, ?hy⟩) hHeld ?_
    case hy => ((intro w' hSw; (try dsimp only at hSw); go_simp); (try with_reducible rfl))
    (try simp only [Act.put, List.setIfInBounds_toArray, List.set_cons_zero, List.set_cons_succ])
    refine wpAnyH_ready (rs := [97]) (by as_aux_lemma => kernel_rfl) (by simp) ?_
    refine AllReadyH.cons (o := { dst := some 162, op := Op.call { callee := Callee.value (Operand.func 16), args := #[Operand.tmp 160, Operand.tmp 161], argTypes := #[24, 24] }, type := 4, pos := "law.go:45", after := #[{ on := 95, ground := Ground.data }, { on := 96, ground := Ground.data }, { on := 94, ground := Ground.chain }, { on := 94, ground := Ground.guard }], guard := some (94, true) }) rfl (fun K hK => ?_) AllReadyH.nil
    go_simp
    (go_at_call 16; (with_reducible refine (same_true (d := f) (HIF_.out _ (((((((((((((((((((((((((((((((HE1.out.trans HE2.out).trans HE3.out).trans HE4.out).trans HE5.out).trans HE6.out).trans HE7.out).trans HE8.out).trans HE9.out).trans HE10.out).trans HE11.out).trans HE12.out).trans HE13.out).trans HE14.out).trans HE15.out).trans HE16.out).trans HE17.out).trans HE18.out).trans HE19.out).trans HE20.out).trans HE21.out).trans HE22.out).trans HE23.out).trans HE24.out).trans HE25.out).trans HE26.out).trans HE27.out).trans HE28.out).trans HE29.out).trans HE30.out).trans HE31.out).trans HE32.out)).rd (HIG_.out _ (((((((((((((((((((((((((((((((HE1.out.trans HE2.out).trans HE3.out).trans HE4.out).trans HE5.out).trans HE6.out).trans HE7.out).trans HE8.out).trans HE9.out).trans HE10.out).trans HE11.out).trans HE12.out).trans HE13.out).trans HE14.out).trans HE15.out).trans HE16.out).trans HE17.out).trans HE18.out).trans HE19.out).trans HE20.out).trans HE21.out).trans HE22.out).trans HE23.out).trans HE24.out).trans HE25.out).trans HE26.out).trans HE27.out).trans HE28.out).trans HE29.out).trans HE30.out).trans HE31.out).trans HE32.out)).rd Lf.out).mono ?_); rintro e w33 ⟨rfl, hx⟩; have HE33 := Lib.hid hx; clear hx hk; have hk := HS.out _ ((((((((((((((((((((((((((((((((HE1.out.trans HE2.out).trans HE3.out).trans HE4.out).trans HE5.out).trans HE6.out).trans HE7.out).trans HE8.out).trans HE9.out).trans HE10.out).trans HE11.out).trans HE12.out).trans HE13.out).trans HE14.out).trans HE15.out).trans HE16.out).trans HE17.out).trans HE18.out).trans HE19.out).trans HE20.out).trans HE21.out).trans HE22.out).trans HE23.out).trans HE24.out).trans HE25.out).trans HE26.out).trans HE27.out).trans HE28.out).trans HE29.out).trans HE30.out).trans HE31.out).trans HE32.out).trans HE33.out))
    (try go_wp2_with fail)
    refine hK.out _ _ hk (fun hHeld' => ?_)
    clear hK K hHeld
    have hHeld := hHeld'
    clear hHeld'
    (try simp only [Act.put, List.setIfInBounds_toArray, List.set_cons_zero, List.set_cons_succ])
    refine wpAnyH_take (i := 98) (oi := { dst := some 163, op := Op.pick (Operand.tmp 159) (Operand.tmp 162) (Operand.const (Value.bool false)), type := 4, pos := "law.go:41", after := #[{ on := 94, ground := Ground.data }, { on := 97, ground := Ground.data }], guard := none }) (v := ?_) rfl (by as_aux_lemma => kernel_rfl) (by as_aux_lemma => kernel_rfl) (by as_aux_lemma => kernel_rfl) (fun _ _ _ h => h) (Or.inl ⟨by rfl, ?hy⟩) hHeld ?_
    case hy => ((intro w' hSw; (try dsimp only at hSw); go_simp); (try with_reducible rfl))
    (try simp only [Act.put, List.setIfInBounds_toArray, List.set_cons_zero, List.set_cons_succ])
    refine wpAnyH_take (i := 99) (oi := { dst := some 164, op := Op.move (Operand.tmp 163), type := 4, pos := "law.go:41", after := #[{ on := 98, ground := Ground.data }, { on := 97, ground := Ground.chain }], guard := none }) (v := ?_) rfl (by as_aux_lemma => kernel_rfl) (by as_aux_lemma => kernel_rfl) (by as_aux_lemma => kernel_rfl) (fun _ _ _ h => h) (Or.inl ⟨by rfl, ?hy⟩) hHeld ?_
    case hy => ((intro w' hSw; (try dsimp only at hSw); go_simp); (try with_reducible rfl))
    (try simp only [Act.put, List.setIfInBounds_toArray, List.set_cons_zero, List.set_cons_succ])
    refine wpAnyH_take (i := 100) (oi := { dst := some 165, op := Op.move (Operand.tmp 8), type := 29, pos := "law.go:41", after := #[{ on := 99, ground := Ground.guard }], guard := some (99, true) }) (v := ?_) rfl (by as_aux_lemma => kernel_rfl) (by as_aux_lemma => kernel_rfl) (by as_aux_lemma => kernel_rfl) (fun _ _ _ h => h) (Or.inl ⟨by rfl, ?hy⟩) hHeld ?_
    case hy => ((intro w' hSw; (try dsimp only at hSw); go_simp); (try with_reducible rfl))
    (try simp only [Act.put, List.setIfInBounds_toArray, List.set_cons_zero, List.set_cons_succ])
    refine wpAnyH_take (i := 102) (oi := { dst := some 167, op := Op.move (Operand.tmp 10), type := 29, pos := "law.go:41", after := #[{ on := 99, ground := Ground.guard }], guard := some (99, true) }) (v := ?_) rfl (by as_aux_lemma => kernel_rfl) (by as_aux_lemma => kernel_rfl) (by as_aux_lemma => kernel_rfl) (fun _ _ _ h => h) (Or.inl ⟨by rfl, ?hy⟩) hHeld ?_
    case hy => ((intro w' hSw; (try dsimp only at hSw); go_simp); (try with_reducible rfl))
    (try simp only [Act.put, List.setIfInBounds_toArray, List.set_cons_zero, List.set_cons_succ])
    refine wpAnyH_ready (rs := [101]) (by as_aux_lemma => kernel_rfl) (by simp) ?_
    refine AllReadyH.cons (o := { dst := some 166, op := Op.call { callee := Callee.value (Operand.func 27), args := #[Operand.tmp 165], argTypes := #[29] }, type := 3, pos := "law.go:45", after := #[{ on := 100, ground := Ground.data }, { on := 99, ground := Ground.chain }, { on := 99, ground := Ground.guard }], guard := some (99, true) }) rfl (fun K hK => ?_) AllReadyH.nil
    go_simp
    (go_at_call 27; (with_reducible refine (num_nilE _).mono ?_); rintro e w34 ⟨rfl, hx⟩; have HE34 := Lib.hid hx; clear hx hk; have hk := HS.out _ (((((((((((((((((((((((((((((((((HE1.out.trans HE2.out).trans HE3.out).trans HE4.out).trans HE5.out).trans HE6.out).trans HE7.out).trans HE8.out).trans HE9.out).trans HE10.out).trans HE11.out).trans HE12.out).trans HE13.out).trans HE14.out).trans HE15.out).trans HE16.out).trans HE17.out).trans HE18.out).trans HE19.out).trans HE20.out).trans HE21.out).trans HE22.out).trans HE23.out).trans HE24.out).trans HE25.out).trans HE26.out).trans HE27.out).trans HE28.out).trans HE29.out).trans HE30.out).trans HE31.out).trans HE32.out).trans HE33.out).trans HE34.out))
    (try go_wp2_with fail)
    refine hK.out _ _ hk (fun hHeld' => ?_)
    clear hK K hHeld
    have hHeld := hHeld'
    clear hHeld'
    (try simp only [Act.put, List.setIfInBounds_toArray, List.set_cons_zero, List.set_cons_succ])
    refine wpAnyH_ready (rs := [103]) (by as_aux_lemma => kernel_rfl) (by simp) ?_
    refine AllReadyH.cons (o := { dst := some 168, op := Op.call { callee := Callee.value (Operand.func 27), args := #[Operand.tmp 167], argTypes := #[29] }, type := 3, pos := "law.go:45", after := #[{ on := 102, ground := Ground.data }, { on := 101, ground := Ground.chain }, { on := 99, ground := Ground.guard }], guard := some (99, true) }) rfl (fun K hK => ?_) AllReadyH.nil
    go_simp
    (go_at_call 27; (with_reducible refine (num_nilE _).mono ?_); rintro e w35 ⟨rfl, hx⟩; have HE35 := Lib.hid hx; clear hx hk; have hk := HS.out _ ((((((((((((((((((((((((((((((((((HE1.out.trans HE2.out).trans HE3.out).trans HE4.out).trans HE5.out).trans HE6.out).trans HE7.out).trans HE8.out).trans HE9.out).trans HE10.out).trans HE11.out).trans HE12.out).trans HE13.out).trans HE14.out).trans HE15.out).trans HE16.out).trans HE17.out).trans HE18.out).trans HE19.out).trans HE20.out).trans HE21.out).trans HE22.out).trans HE23.out).trans HE24.out).trans HE25.out).trans HE26.out).trans HE27.out).trans HE28.out).trans HE29.out).trans HE30.out).trans HE31.out).trans HE32.out).trans HE33.out).trans HE34.out).trans HE35.out))
    (try go_wp2_with fail)
    refine hK.out _ _ hk (fun hHeld' => ?_)
    clear hK K hHeld
    have hHeld := hHeld'
    clear hHeld'
    (try simp only [Act.put, List.setIfInBounds_toArray, List.set_cons_zero, List.set_cons_succ])
    refine wpAnyH_take (i := 104) (oi := { dst := some 169, op := Op.binOp BinOp.eql 3 (Operand.tmp 166) (Operand.tmp 168) 3, type := 4, pos := "law.go:41", after := #[{ on := 101, ground := Ground.data }, { on := 103, ground := Ground.data }, { on := 99, ground := Ground.guard }], guard := some (99, true) }) (v := ?_) rfl (by as_aux_lemma => kernel_rfl) (by as_aux_lemma => kernel_rfl) (by as_aux_lemma => kernel_rfl) (fun _ _ _ h => h) (Or.inl ⟨by rfl, ?hy⟩) hHeld ?_
    case hy => ((intro w' hSw; (try dsimp only at hSw); go_simp); (try with_reducible rfl))
    (try simp only [Act.put, List.setIfInBounds_toArray, List.set_cons_zero, List.set_cons_succ])
    refine wpAnyH_take (i := 105) (oi := { dst := some 170, op := Op.pick (Operand.tmp 164) (Operand.tmp 169) (Operand.const (Value.bool false)), type := 4, pos := "law.go:41", after := #[{ on := 99, ground := Ground.data }, { on := 104, ground := Ground.data }], guard := none }) (v := ?_) rfl (by as_aux_lemma => kernel_rfl) (by as_aux_lemma => kernel_rfl) (by as_aux_lemma => kernel_rfl) (fun _ _ _ h => h) (Or.inl ⟨by rfl, ?hy⟩) hHeld ?_
    case hy => ((intro w' hSw; (try dsimp only at hSw); go_simp); (try with_reducible rfl))
    (try simp only [Act.put, List.setIfInBounds_toArray, List.set_cons_zero, List.set_cons_succ])
    refine wpAnyH_take (i := 106) (oi := { dst := some 171, op := Op.move (Operand.tmp 170), type := 4, pos := "law.go:41", after := #[{ on := 105, ground := Ground.data }, { on := 103, ground := Ground.chain }], guard := none }) (v := ?_) rfl (by as_aux_lemma => kernel_rfl) (by as_aux_lemma => kernel_rfl) (by as_aux_lemma => kernel_rfl) (fun _ _ _ h => h) (Or.inl ⟨by rfl, ?hy⟩) hHeld ?_
    case hy => ((intro w' hSw; (try dsimp only at hSw); go_simp); (try with_reducible rfl))
    (try simp only [Act.put, List.setIfInBounds_toArray, List.set_cons_zero, List.set_cons_succ])
    refine wpAnyH_take (i := 107) (oi := { dst := some 172, op := Op.load 24 (Operand.tmp 11), type := 24, pos := "law.go:41", after := #[{ on := 106, ground := Ground.guard }], guard := some (106, true) }) (v := ?_) rfl (by as_aux_lemma => kernel_rfl) (by as_aux_lemma => kernel_rfl) (by as_aux_lemma => kernel_rfl) (fun _ _ _ h => h) (Or.inl ⟨by rfl, ?hy⟩) hHeld ?_
    case hy => ((intro w' hSw; (try dsimp only at hSw); go_simp); (try with_reducible rfl))
    (try simp only [Act.put, List.setIfInBounds_toArray, List.set_cons_zero, List.set_cons_succ])
    refine wpAnyH_take (i := 108) (oi := { dst := some 173, op := Op.load 24 (Operand.tmp 13), type := 24, pos := "law.go:41", after := #[{ on := 106, ground := Ground.guard }], guard := some (106, true) }) (v := ?_) rfl (by as_aux_lemma => kernel_rfl) (by as_aux_lemma => kernel_rfl) (by as_aux_lemma => kernel_rfl) (fun _ _ _ h => h) (Or.inl ⟨by rfl, ?hy⟩) hHeld ?_
    case hy => ((intro w' hSw; (try dsimp only at hSw); go_simp); (try with_reducible rfl))
    (try simp only [Act.put, List.setIfInBounds_toArray, List.set_cons_zero, List.set_cons_succ])
    refine wpAnyH_ready (rs := [109]) (by as_aux_lemma => kernel_rfl) (by simp) ?_
    refine AllReadyH.cons (o := { dst := some 174, op := Op.call { callee := Callee.value (Operand.func 16), args := #[Operand.tmp 172, Operand.tmp 173], argTypes := #[24, 24] }, type := 4, pos := "law.go:45", after := #[{ on := 107, ground := Ground.data }, { on := 108, ground := Ground.data }, { on := 106, ground := Ground.chain }, { on := 106, ground := Ground.guard }], guard := some (106, true) }) rfl (fun K hK => ?_) AllReadyH.nil
    go_simp
    (go_at_call 16; (with_reducible refine (same_true (d := dq) (HIQ_.out _ ((((((((((((((((((((((((((((((((((HE1.out.trans HE2.out).trans HE3.out).trans HE4.out).trans HE5.out).trans HE6.out).trans HE7.out).trans HE8.out).trans HE9.out).trans HE10.out).trans HE11.out).trans HE12.out).trans HE13.out).trans HE14.out).trans HE15.out).trans HE16.out).trans HE17.out).trans HE18.out).trans HE19.out).trans HE20.out).trans HE21.out).trans HE22.out).trans HE23.out).trans HE24.out).trans HE25.out).trans HE26.out).trans HE27.out).trans HE28.out).trans HE29.out).trans HE30.out).trans HE31.out).trans HE32.out).trans HE33.out).trans HE34.out).trans HE35.out)).rd (HIR_.out _ ((((((((((((((((((((((((((((((((((HE1.out.trans HE2.out).trans HE3.out).trans HE4.out).trans HE5.out).trans HE6.out).trans HE7.out).trans HE8.out).trans HE9.out).trans HE10.out).trans HE11.out).trans HE12.out).trans HE13.out).trans HE14.out).trans HE15.out).trans HE16.out).trans HE17.out).trans HE18.out).trans HE19.out).trans HE20.out).trans HE21.out).trans HE22.out).trans HE23.out).trans HE24.out).trans HE25.out).trans HE26.out).trans HE27.out).trans HE28.out).trans HE29.out).trans HE30.out).trans HE31.out).trans HE32.out).trans HE33.out).trans HE34.out).trans HE35.out)).rd Ldq.out).mono ?_); rintro e w36 ⟨rfl, hx⟩; have HE36 := Lib.hid hx; clear hx hk; have hk := HS.out _ (((((((((((((((((((((((((((((((((((HE1.out.trans HE2.out).trans HE3.out).trans HE4.out).trans HE5.out).trans HE6.out).trans HE7.out).trans HE8.out).trans HE9.out).trans HE10.out).trans HE11.out).trans HE12.out).trans HE13.out).trans HE14.out).trans HE15.out).trans HE16.out).trans HE17.out).trans HE18.out).trans HE19.out).trans HE20.out).trans HE21.out).trans HE22.out).trans HE23.out).trans HE24.out).trans HE25.out).trans HE26.out).trans HE27.out).trans HE28.out).trans HE29.out).trans HE30.out).trans HE31.out).trans HE32.out).trans HE33.out).trans HE34.out).trans HE35.out).trans HE36.out))
    (try go_wp2_with fail)
    refine hK.out _ _ hk (fun hHeld' => ?_)
    clear hK K hHeld
    have hHeld := hHeld'
    clear hHeld'
    (try simp only [Act.put, List.setIfInBounds_toArray, List.set_cons_zero, List.set_cons_succ])
    refine wpAnyH_take (i := 110) (oi := { dst := some 175, op := Op.pick (Operand.tmp 171) (Operand.tmp 174) (Operand.const (Value.bool false)), type := 4, pos := "law.go:41", after := #[{ on := 106, ground := Ground.data }, { on := 109, ground := Ground.data }], guard := none }) (v := ?_) rfl (by as_aux_lemma => kernel_rfl) (by as_aux_lemma => kernel_rfl) (by as_aux_lemma => kernel_rfl) (fun _ _ _ h => h) (Or.inl ⟨by rfl, ?hy⟩) hHeld ?_
    case hy => ((intro w' hSw; (try dsimp only at hSw); go_simp); (try with_reducible rfl))
    (try simp only [Act.put, List.setIfInBounds_toArray, List.set_cons_zero, List.set_cons_succ])
    refine wpAnyH_take (i := 111) (oi := { dst := some 176, op := Op.move (Operand.tmp 175), type := 4, pos := "law.go:41", after := #[{ on := 110, ground := Ground.data }, { on := 109, ground := Ground.chain }], guard := none }) (v := ?_) rfl (by as_aux_lemma => kernel_rfl) (by as_aux_lemma => kernel_rfl) (by as_aux_lemma => kernel_rfl) (fun _ _ _ h => h) (Or.inl ⟨by rfl, ?hy⟩) hHeld ?_
    case hy => ((intro w' hSw; (try dsimp only at hSw); go_simp); (try with_reducible rfl))
    (try simp only [Act.put, List.setIfInBounds_toArray, List.set_cons_zero, List.set_cons_succ])
    refine wpAnyH_take (i := 112) (oi := { dst := some 177, op := Op.move (Operand.tmp 12), type := 29, pos := "law.go:41", after := #[{ on := 111, ground := Ground.guard }], guard := some (111, true) }) (v := ?_) rfl (by as_aux_lemma => kernel_rfl) (by as_aux_lemma => kernel_rfl) (by as_aux_lemma => kernel_rfl) (fun _ _ _ h => h) (Or.inl ⟨by rfl, ?hy⟩) hHeld ?_
    case hy => ((intro w' hSw; (try dsimp only at hSw); go_simp); (try with_reducible rfl))
    (try simp only [Act.put, List.setIfInBounds_toArray, List.set_cons_zero, List.set_cons_succ])
    refine wpAnyH_take (i := 114) (oi := { dst := some 179, op := Op.move (Operand.tmp 14), type := 29, pos := "law.go:41", after := #[{ on := 111, ground := Ground.guard }], guard := some (111, true) }) (v := ?_) rfl (by as_aux_lemma => kernel_rfl) (by as_aux_lemma => kernel_rfl) (by as_aux_lemma => kernel_rfl) (fun _ _ _ h => h) (Or.inl ⟨by rfl, ?hy⟩) hHeld ?_
    case hy => ((intro w' hSw; (try dsimp only at hSw); go_simp); (try with_reducible rfl))
    (try simp only [Act.put, List.setIfInBounds_toArray, List.set_cons_zero, List.set_cons_succ])
    refine wpAnyH_ready (rs := [113]) (by as_aux_lemma => kernel_rfl) (by simp) ?_
    refine AllReadyH.cons (o := { dst := some 178, op := Op.call { callee := Callee.value (Operand.func 27), args := #[Operand.tmp 177], argTypes := #[29] }, type := 3, pos := "law.go:45", after := #[{ on := 112, ground := Ground.data }, { on := 111, ground := Ground.chain }, { on := 111, ground := Ground.guard }], guard := some (111, true) }) rfl (fun K hK => ?_) AllReadyH.nil
    go_simp
    (go_at_call 27; (with_reducible refine (HNu.out _).mono ?_); rintro e w37 ⟨rfl, hx⟩; have HE37 := Lib.hid hx; clear hx hk; have hk := HS.out _ ((((((((((((((((((((((((((((((((((((HE1.out.trans HE2.out).trans HE3.out).trans HE4.out).trans HE5.out).trans HE6.out).trans HE7.out).trans HE8.out).trans HE9.out).trans HE10.out).trans HE11.out).trans HE12.out).trans HE13.out).trans HE14.out).trans HE15.out).trans HE16.out).trans HE17.out).trans HE18.out).trans HE19.out).trans HE20.out).trans HE21.out).trans HE22.out).trans HE23.out).trans HE24.out).trans HE25.out).trans HE26.out).trans HE27.out).trans HE28.out).trans HE29.out).trans HE30.out).trans HE31.out).trans HE32.out).trans HE33.out).trans HE34.out).trans HE35.out).trans HE36.out).trans HE37.out))
    (try go_wp2_with fail)
    refine hK.out _ _ hk (fun hHeld' => ?_)
    clear hK K hHeld
    have hHeld := hHeld'
    clear hHeld'
    (try simp only [Act.put, List.setIfInBounds_toArray, List.set_cons_zero, List.set_cons_succ])
    refine wpAnyH_ready (rs := [115]) (by as_aux_lemma => kernel_rfl) (by simp) ?_
    refine AllReadyH.cons (o := { dst := some 180, op := Op.call { callee := Callee.value (Operand.func 27), args := #[Operand.tmp 179], argTypes := #[29] }, type := 3, pos := "law.go:45", after := #[{ on := 114, ground := Ground.data }, { on := 113, ground := Ground.chain }, { on := 111, ground := Ground.guard }], guard := some (111, true) }) rfl (fun K hK => ?_) AllReadyH.nil
    go_simp
    (go_at_call 27; (with_reducible refine (HNu.out _).mono ?_); rintro e w38 ⟨rfl, hx⟩; have HE38 := Lib.hid hx; clear hx hk; have hk := HS.out _ (((((((((((((((((((((((((((((((((((((HE1.out.trans HE2.out).trans HE3.out).trans HE4.out).trans HE5.out).trans HE6.out).trans HE7.out).trans HE8.out).trans HE9.out).trans HE10.out).trans HE11.out).trans HE12.out).trans HE13.out).trans HE14.out).trans HE15.out).trans HE16.out).trans HE17.out).trans HE18.out).trans HE19.out).trans HE20.out).trans HE21.out).trans HE22.out).trans HE23.out).trans HE24.out).trans HE25.out).trans HE26.out).trans HE27.out).trans HE28.out).trans HE29.out).trans HE30.out).trans HE31.out).trans HE32.out).trans HE33.out).trans HE34.out).trans HE35.out).trans HE36.out).trans HE37.out).trans HE38.out))
    (try go_wp2_with fail)
    refine hK.out _ _ hk (fun hHeld' => ?_)
    clear hK K hHeld
    have hHeld := hHeld'
    clear hHeld'
    (try simp only [Act.put, List.setIfInBounds_toArray, List.set_cons_zero, List.set_cons_succ])
    refine wpAnyH_take (i := 116) (oi := { dst := some 181, op := Op.binOp BinOp.eql 3 (Operand.tmp 178) (Operand.tmp 180) 3, type := 4, pos := "law.go:41", after := #[{ on := 113, ground := Ground.data }, { on := 115, ground := Ground.data }, { on := 111, ground := Ground.guard }], guard := some (111, true) }) (v := ?_) rfl (by as_aux_lemma => kernel_rfl) (by as_aux_lemma => kernel_rfl) (by as_aux_lemma => kernel_rfl) (fun _ _ _ h => h) (Or.inl ⟨by rfl, ?hy⟩) hHeld ?_
    case hy => ((intro w' hSw; (try dsimp only at hSw); go_simp); (try with_reducible rfl))
    (try simp only [Act.put, List.setIfInBounds_toArray, List.set_cons_zero, List.set_cons_succ])
    refine wpAnyH_take (i := 117) (oi := { dst := some 182, op := Op.pick (Operand.tmp 176) (Operand.tmp 181) (Operand.const (Value.bool false)), type := 4, pos := "law.go:41", after := #[{ on := 111, ground := Ground.data }, { on := 116, ground := Ground.data }], guard := none }) (v := ?_) rfl (by as_aux_lemma => kernel_rfl) (by as_aux_lemma => kernel_rfl) (by as_aux_lemma => kernel_rfl) (fun _ _ _ h => h) (Or.inl ⟨by rfl, ?hy⟩) hHeld ?_
    case hy => ((intro w' hSw; (try dsimp only at hSw); go_simp); (try with_reducible rfl))
    (try simp only [Act.put, List.setIfInBounds_toArray, List.set_cons_zero, List.set_cons_succ])
    refine wpAnyH_take (i := 118) (oi := { dst := some 183, op := Op.move (Operand.tmp 182), type := 4, pos := "law.go:41", after := #[{ on := 117, ground := Ground.data }, { on := 115, ground := Ground.chain }], guard := none }) (v := ?_) rfl (by as_aux_lemma => kernel_rfl) (by as_aux_lemma => kernel_rfl) (by as_aux_lemma => kernel_rfl) (fun _ _ _ h => h) (Or.inl ⟨by rfl, ?hy⟩) hHeld ?_
    case hy => ((intro w' hSw; (try dsimp only at hSw); go_simp); (try with_reducible rfl))
    (try simp only [Act.put, List.setIfInBounds_toArray, List.set_cons_zero, List.set_cons_succ])
    refine wpAnyH_take (i := 119) (oi := { dst := some 184, op := Op.move (Operand.tmp 15), type := 3, pos := "law.go:41", after := #[{ on := 118, ground := Ground.guard }], guard := some (118, true) }) (v := ?_) rfl (by as_aux_lemma => kernel_rfl) (by as_aux_lemma => kernel_rfl) (by as_aux_lemma => kernel_rfl) (fun _ _ _ h => h) (Or.inl ⟨by rfl, ?hy⟩) hHeld ?_
    case hy => ((intro w' hSw; (try dsimp only at hSw); go_simp); (try with_reducible rfl))
    (try simp only [Act.put, List.setIfInBounds_toArray, List.set_cons_zero, List.set_cons_succ])
    refine wpAnyH_take (i := 120) (oi := { dst := some 185, op := Op.move (Operand.tmp 17), type := 3, pos := "law.go:41", after := #[{ on := 118, ground := Ground.guard }], guard := some (118, true) }) (v := ?_) rfl (by as_aux_lemma => kernel_rfl) (by as_aux_lemma => kernel_rfl) (by as_aux_lemma => kernel_rfl) (fun _ _ _ h => h) (Or.inl ⟨by rfl, ?hy⟩) hHeld ?_
    case hy => ((intro w' hSw; (try dsimp only at hSw); go_simp); (try with_reducible rfl))
    (try simp only [Act.put, List.setIfInBounds_toArray, List.set_cons_zero, List.set_cons_succ])
    refine wpAnyH_take (i := 121) (oi := { dst := some 186, op := Op.binOp BinOp.eql 3 (Operand.tmp 184) (Operand.tmp 185) 3, type := 4, pos := "law.go:41", after := #[{ on := 119, ground := Ground.data }, { on := 120, ground := Ground.data }, { on := 118, ground := Ground.guard }], guard := some (118, true) }) (v := ?_) rfl (by as_aux_lemma => kernel_rfl) (by as_aux_lemma => kernel_rfl) (by as_aux_lemma => kernel_rfl) (fun _ _ _ h => h) (Or.inl ⟨by rfl, ?hy⟩) hHeld ?_
    case hy => ((intro w' hSw; (try dsimp only at hSw); go_simp); (try with_reducible rfl))
    (try simp only [Act.put, List.setIfInBounds_toArray, List.set_cons_zero, List.set_cons_succ])
    refine wpAnyH_take (i := 122) (oi := { dst := some 187, op := Op.pick (Operand.tmp 183) (Operand.tmp 186) (Operand.const (Value.bool false)), type := 4, pos := "law.go:41", after := #[{ on := 118, ground := Ground.data }, { on := 121, ground := Ground.data }], guard := none }) (v := ?_) rfl (by as_aux_lemma => kernel_rfl) (by as_aux_lemma => kernel_rfl) (by as_aux_lemma => kernel_rfl) (fun _ _ _ h => h) (Or.inl ⟨by rfl, ?hy⟩) hHeld ?_
    case hy => ((intro w' hSw; (try dsimp only at hSw); go_simp); (try with_reducible rfl))
    (try simp only [Act.put, List.setIfInBounds_toArray, List.set_cons_zero, List.set_cons_succ])
    refine wpAnyH_take (i := 123) (oi := { dst := some 188, op := Op.move (Operand.tmp 187), type := 4, pos := "law.go:41", after := #[{ on := 122, ground := Ground.data }, { on := 118, ground := Ground.chain }], guard := none }) (v := ?_) rfl (by as_aux_lemma => kernel_rfl) (by as_aux_lemma => kernel_rfl) (by as_aux_lemma => kernel_rfl) (fun _ _ _ h => h) (Or.inl ⟨by rfl, ?hy⟩) hHeld ?_
    case hy => ((intro w' hSw; (try dsimp only at hSw); go_simp); (try with_reducible rfl))
    (try simp only [Act.put, List.setIfInBounds_toArray, List.set_cons_zero, List.set_cons_succ])
    refine wpAnyH_take (i := 124) (oi := { dst := some 189, op := Op.move (Operand.tmp 16), type := 4, pos := "law.go:41", after := #[{ on := 123, ground := Ground.guard }], guard := some (123, true) }) (v := ?_) rfl (by as_aux_lemma => kernel_rfl) (by as_aux_lemma => kernel_rfl) (by as_aux_lemma => kernel_rfl) (fun _ _ _ h => h) (Or.inl ⟨by rfl, ?hy⟩) hHeld ?_
    case hy => ((intro w' hSw; (try dsimp only at hSw); go_simp); (try with_reducible rfl))
    (try simp only [Act.put, List.setIfInBounds_toArray, List.set_cons_zero, List.set_cons_succ])
    refine wpAnyH_take (i := 125) (oi := { dst := some 190, op := Op.move (Operand.tmp 18), type := 4, pos := "law.go:41", after := #[{ on := 123, ground := Ground.guard }], guard := some (123, true) }) (v := ?_) rfl (by as_aux_lemma => kernel_rfl) (by as_aux_lemma => kernel_rfl) (by as_aux_lemma => kernel_rfl) (fun _ _ _ h => h) (Or.inl ⟨by rfl, ?hy⟩) hHeld ?_
    case hy => ((intro w' hSw; (try dsimp only at hSw); go_simp); (try with_reducible rfl))
    (try simp only [Act.put, List.setIfInBounds_toArray, List.set_cons_zero, List.set_cons_succ])
    refine wpAnyH_take (i := 126) (oi := { dst := some 191, op := Op.binOp BinOp.eql 4 (Operand.tmp 189) (Operand.tmp 190) 4, type := 4, pos := "law.go:41", after := #[{ on := 124, ground := Ground.data }, { on := 125, ground := Ground.data }, { on := 123, ground := Ground.guard }], guard := some (123, true) }) (v := ?_) rfl (by as_aux_lemma => kernel_rfl) (by as_aux_lemma => kernel_rfl) (by as_aux_lemma => kernel_rfl) (fun _ _ _ h => h) (Or.inl ⟨by rfl, ?hy⟩) hHeld ?_
    case hy => ((intro w' hSw; (try dsimp only at hSw); go_simp); (try with_reducible rfl))
    (try simp only [Act.put, List.setIfInBounds_toArray, List.set_cons_zero, List.set_cons_succ])
    refine wpAnyH_take (i := 127) (oi := { dst := some 192, op := Op.pick (Operand.tmp 188) (Operand.tmp 191) (Operand.const (Value.bool false)), type := 4, pos := "law.go:41", after := #[{ on := 123, ground := Ground.data }, { on := 126, ground := Ground.data }], guard := none }) (v := ?_) rfl (by as_aux_lemma => kernel_rfl) (by as_aux_lemma => kernel_rfl) (by as_aux_lemma => kernel_rfl) (fun _ _ _ h => h) (Or.inl ⟨by rfl, ?hy⟩) hHeld ?_
    case hy => ((intro w' hSw; (try dsimp only at hSw); go_simp); (try with_reducible rfl))
    (try simp only [Act.put, List.setIfInBounds_toArray, List.set_cons_zero, List.set_cons_succ])
    refine wpAnyH_take (i := 128) (oi := { dst := some 193, op := Op.move (Operand.tmp 192), type := 4, pos := "law.go:41", after := #[{ on := 127, ground := Ground.data }, { on := 123, ground := Ground.chain }], guard := none }) (v := ?_) rfl (by as_aux_lemma => kernel_rfl) (by as_aux_lemma => kernel_rfl) (by as_aux_lemma => kernel_rfl) (fun _ _ _ h => h) (Or.inl ⟨by rfl, ?hy⟩) hHeld ?_
    case hy => ((intro w' hSw; (try dsimp only at hSw); go_simp); (try with_reducible rfl))
    (try simp only [Act.put, List.setIfInBounds_toArray, List.set_cons_zero, List.set_cons_succ])
    refine wpAnyH_take (i := 129) (oi := { dst := some 194, op := Op.load 24 (Operand.tmp 2), type := 24, pos := "law.go:41", after := #[{ on := 128, ground := Ground.guard }], guard := some (128, true) }) (v := ?_) rfl (by as_aux_lemma => kernel_rfl) (by as_aux_lemma => kernel_rfl) (by as_aux_lemma => kernel_rfl) (fun _ _ _ h => h) (Or.inl ⟨by rfl, ?hy⟩) hHeld ?_
    case hy => ((intro w' hSw; (try dsimp only at hSw); go_simp); (try with_reducible rfl))
    (try simp only [Act.put, List.setIfInBounds_toArray, List.set_cons_zero, List.set_cons_succ])
    refine wpAnyH_take (i := 131) (oi := { dst := some 196, op := Op.load 24 (Operand.tmp 5), type := 24, pos := "law.go:41", after := #[{ on := 128, ground := Ground.guard }], guard := some (128, true) }) (v := ?_) rfl (by as_aux_lemma => kernel_rfl) (by as_aux_lemma => kernel_rfl) (by as_aux_lemma => kernel_rfl) (fun _ _ _ h => h) (Or.inl ⟨by rfl, ?hy⟩) hHeld ?_
    case hy => ((intro w' hSw; (try dsimp only at hSw); go_simp); (try with_reducible rfl))
    (try simp only [Act.put, List.setIfInBounds_toArray, List.set_cons_zero, List.set_cons_succ])
    refine wpAnyH_ready (rs := [130]) (by as_aux_lemma => kernel_rfl) (by simp) ?_
    refine AllReadyH.cons (o := { dst := some 195, op := Op.call { callee := Callee.value (Operand.func 28), args := #[Operand.tmp 194], argTypes := #[24] }, type := 9, pos := "law.go:45", after := #[{ on := 129, ground := Ground.data }, { on := 128, ground := Ground.chain }, { on := 128, ground := Ground.guard }], guard := some (128, true) }) rfl (fun K hK => ?_) AllReadyH.nil
    go_simp
    (go_at_call 28; (with_reducible refine (text_any (HA.out.ext (HEW.out.trans (((((((((((((((((((((((((((((((((((((HE1.out.trans HE2.out).trans HE3.out).trans HE4.out).trans HE5.out).trans HE6.out).trans HE7.out).trans HE8.out).trans HE9.out).trans HE10.out).trans HE11.out).trans HE12.out).trans HE13.out).trans HE14.out).trans HE15.out).trans HE16.out).trans HE17.out).trans HE18.out).trans HE19.out).trans HE20.out).trans HE21.out).trans HE22.out).trans HE23.out).trans HE24.out).trans HE25.out).trans HE26.out).trans HE27.out).trans HE28.out).trans HE29.out).trans HE30.out).trans HE31.out).trans HE32.out).trans HE33.out).trans HE34.out).trans HE35.out).trans HE36.out).trans HE37.out).trans HE38.out))) (HP.out.ext (HEW.out.trans (((((((((((((((((((((((((((((((((((((HE1.out.trans HE2.out).trans HE3.out).trans HE4.out).trans HE5.out).trans HE6.out).trans HE7.out).trans HE8.out).trans HE9.out).trans HE10.out).trans HE11.out).trans HE12.out).trans HE13.out).trans HE14.out).trans HE15.out).trans HE16.out).trans HE17.out).trans HE18.out).trans HE19.out).trans HE20.out).trans HE21.out).trans HE22.out).trans HE23.out).trans HE24.out).trans HE25.out).trans HE26.out).trans HE27.out).trans HE28.out).trans HE29.out).trans HE30.out).trans HE31.out).trans HE32.out).trans HE33.out).trans HE34.out).trans HE35.out).trans HE36.out).trans HE37.out).trans HE38.out))) La2.out).mono ?_); rw [Tx.out]; rintro e w39 ⟨rfl, hx⟩; have HE39 := Lib.hid hx; clear hx hk; have hk := HS.out _ ((((((((((((((((((((((((((((((((((((((HE1.out.trans HE2.out).trans HE3.out).trans HE4.out).trans HE5.out).trans HE6.out).trans HE7.out).trans HE8.out).trans HE9.out).trans HE10.out).trans HE11.out).trans HE12.out).trans HE13.out).trans HE14.out).trans HE15.out).trans HE16.out).trans HE17.out).trans HE18.out).trans HE19.out).trans HE20.out).trans HE21.out).trans HE22.out).trans HE23.out).trans HE24.out).trans HE25.out).trans HE26.out).trans HE27.out).trans HE28.out).trans HE29.out).trans HE30.out).trans HE31.out).trans HE32.out).trans HE33.out).trans HE34.out).trans HE35.out).trans HE36.out).trans HE37.out).trans HE38.out).trans HE39.out))
    (try go_wp2_with fail)
    refine hK.out _ _ hk (fun hHeld' => ?_)
    clear hK K hHeld
    have hHeld := hHeld'
    clear hHeld'
    (try simp only [Act.put, List.setIfInBounds_toArray, List.set_cons_zero, List.set_cons_succ])
    refine wpAnyH_ready (rs := [132]) (by as_aux_lemma => kernel_rfl) (by simp) ?_
    refine AllReadyH.cons (o := { dst := some 197, op := Op.call { callee := Callee.value (Operand.func 28), args := #[Operand.tmp 196], argTypes := #[24] }, type := 9, pos := "law.go:45", after := #[{ on := 131, ground := Ground.data }, { on := 130, ground := Ground.chain }, { on := 128, ground := Ground.guard }], guard := some (128, true) }) rfl (fun K hK => ?_) AllReadyH.nil
    go_simp
    (go_at_call 28; (with_reducible refine (text_any (HX.out.ext (HEW.out.trans ((((((((((((((((((((((((((((((((((((((HE1.out.trans HE2.out).trans HE3.out).trans HE4.out).trans HE5.out).trans HE6.out).trans HE7.out).trans HE8.out).trans HE9.out).trans HE10.out).trans HE11.out).trans HE12.out).trans HE13.out).trans HE14.out).trans HE15.out).trans HE16.out).trans HE17.out).trans HE18.out).trans HE19.out).trans HE20.out).trans HE21.out).trans HE22.out).trans HE23.out).trans HE24.out).trans HE25.out).trans HE26.out).trans HE27.out).trans HE28.out).trans HE29.out).trans HE30.out).trans HE31.out).trans HE32.out).trans HE33.out).trans HE34.out).trans HE35.out).trans HE36.out).trans HE37.out).trans HE38.out).trans HE39.out))) (HP.out.ext (HEW.out.trans ((((((((((((((((((((((((((((((((((((((HE1.out.trans HE2.out).trans HE3.out).trans HE4.out).trans HE5.out).trans HE6.out).trans HE7.out).trans HE8.out).trans HE9.out).trans HE10.out).trans HE11.out).trans HE12.out).trans HE13.out).trans HE14.out).trans HE15.out).trans HE16.out).trans HE17.out).trans HE18.out).trans HE19.out).trans HE20.out).trans HE21.out).trans HE22.out).trans HE23.out).trans HE24.out).trans HE25.out).trans HE26.out).trans HE27.out).trans HE28.out).trans HE29.out).trans HE30.out).trans HE31.out).trans HE32.out).trans HE33.out).trans HE34.out).trans HE35.out).trans HE36.out).trans HE37.out).trans HE38.out).trans HE39.out))) La2.out).mono ?_); rw [Tx.out]; rintro e w40 ⟨rfl, hx⟩; have HE40 := Lib.hid hx; clear hx hk; have hk := HS.out _ (((((((((((((((((((((((((((((((((((((((HE1.out.trans HE2.out).trans HE3.out).trans HE4.out).trans HE5.out).trans HE6.out).trans HE7.out).trans HE8.out).trans HE9.out).trans HE10.out).trans HE11.out).trans HE12.out).trans HE13.out).trans HE14.out).trans HE15.out).trans HE16.out).trans HE17.out).trans HE18.out).trans HE19.out).trans HE20.out).trans HE21.out).trans HE22.out).trans HE23.out).trans HE24.out).trans HE25.out).trans HE26.out).trans HE27.out).trans HE28.out).trans HE29.out).trans HE30.out).trans HE31.out).trans HE32.out).trans HE33.out).trans HE34.out).trans HE35.out).trans HE36.out).trans HE37.out).trans HE38.out).trans HE39.out).trans HE40.out))
    (try go_wp2_with fail)
    refine hK.out _ _ hk (fun hHeld' => ?_)
    clear hK K hHeld
    have hHeld := hHeld'
    clear hHeld'
    (try simp only [Act.put, List.setIfInBounds_toArray, List.set_cons_zero, List.set_cons_succ])
    refine wpAnyH_take (i := 133) (oi := { dst := some 198, op := Op.binOp BinOp.eql 9 (Operand.tmp 195) (Operand.tmp 197) 9, type := 4, pos := "law.go:41", after := #[{ on := 130, ground := Ground.data }, { on := 132, ground := Ground.data }, { on := 128, ground := Ground.guard }], guard := some (128, true) }) (v := ?_) rfl (by as_aux_lemma => kernel_rfl) (by as_aux_lemma => kernel_rfl) (by as_aux_lemma => kernel_rfl) (fun _ _ _ h => h) (Or.inl ⟨by rfl, ?hy⟩) hHeld ?_
    case hy => ((intro w' hSw; (try dsimp only at hSw); go_simp); (try with_reducible rfl))
    (try simp only [Act.put, List.setIfInBounds_toArray, List.set_cons_zero, List.set_cons_succ])
    refine wpAnyH_take (i := 134) (oi := { dst := some 199, op := Op.pick (Operand.tmp 193) (Operand.tmp 198) (Operand.const (Value.bool false)), type := 4, pos := "law.go:41", after := #[{ on := 128, ground := Ground.data }, { on := 133, ground := Ground.data }], guard := none }) (v := ?_) rfl (by as_aux_lemma => kernel_rfl) (by as_aux_lemma => kernel_rfl) (by as_aux_lemma => kernel_rfl) (fun _ _ _ h => h) (Or.inl ⟨by rfl, ?hy⟩) hHeld ?_
    case hy => ((intro w' hSw; (try dsimp only at hSw); go_simp); (try with_reducible rfl))
    (try simp only [Act.put, List.setIfInBounds_toArray, List.set_cons_zero, List.set_cons_succ])
    refine wpAnyH_take (i := 135) (oi := { dst := some 4, op := Op.assign (Operand.tmp 199), type := 4, pos := "law.go:41", after := (([{ on := 134, ground := Ground.data }, { on := 132, ground := Ground.chain }, { on := 0, ground := Ground.phase }, { on := 1, ground := Ground.phase }, { on := 2, ground := Ground.phase }, { on := 3, ground := Ground.phase }, { on := 4, ground := Ground.phase }, { on := 5, ground := Ground.phase }, { on := 6, ground := Ground.phase }, { on := 7, ground := Ground.phase }, { on := 8, ground := Ground.phase }, { on := 9, ground := Ground.phase }, { on := 10, ground := Ground.phase }, { on := 11, ground := Ground.phase }, { on := 12, ground := Ground.phase }, { on := 13, ground := Ground.phase }, { on := 14, ground := Ground.phase }, { on := 15, ground := Ground.phase }, { on := 16, ground := Ground.phase }, { on := 17, ground := Ground.phase }, { on := 18, ground := Ground.phase }, { on := 19, ground := Ground.phase }, { on := 20, ground := Ground.phase }, { on := 21, ground := Ground.phase }, { on := 22, ground := Ground.phase }, { on := 23, ground := Ground.phase }, { on := 24, ground := Ground.phase }, { on := 25, ground := Ground.phase }, { on := 26, ground := Ground.phase }, { on := 27, ground := Ground.phase }, { on := 28, ground := Ground.phase }, { on := 29, ground := Ground.phase }, { on := 30, ground := Ground.phase }, { on := 31, ground := Ground.phase }].append [{ on := 32, ground := Ground.phase }, { on := 33, ground := Ground.phase }, { on := 34, ground := Ground.phase }, { on := 35, ground := Ground.phase }, { on := 36, ground := Ground.phase }, { on := 37, ground := Ground.phase }, { on := 38, ground := Ground.phase }, { on := 39, ground := Ground.phase }, { on := 40, ground := Ground.phase }, { on := 41, ground := Ground.phase }, { on := 42, ground := Ground.phase }, { on := 43, ground := Ground.phase }, { on := 44, ground := Ground.phase }, { on := 45, ground := Ground.phase }, { on := 46, ground := Ground.phase }, { on := 47, ground := Ground.phase }, { on := 48, ground := Ground.phase }, { on := 49, ground := Ground.phase }, { on := 50, ground := Ground.phase }, { on := 51, ground := Ground.phase }, { on := 52, ground := Ground.phase }, { on := 53, ground := Ground.phase }, { on := 54, ground := Ground.phase }, { on := 55, ground := Ground.phase }, { on := 56, ground := Ground.phase }, { on := 57, ground := Ground.phase }, { on := 58, ground := Ground.phase }, { on := 59, ground := Ground.phase }, { on := 60, ground := Ground.phase }, { on := 61, ground := Ground.phase }, { on := 62, ground := Ground.phase }, { on := 63, ground := Ground.phase }, { on := 64, ground := Ground.phase }, { on := 65, ground := Ground.phase }]).append ([{ on := 66, ground := Ground.phase }, { on := 67, ground := Ground.phase }, { on := 68, ground := Ground.phase }, { on := 69, ground := Ground.phase }, { on := 70, ground := Ground.phase }, { on := 71, ground := Ground.phase }, { on := 72, ground := Ground.phase }, { on := 73, ground := Ground.phase }, { on := 74, ground := Ground.phase }, { on := 75, ground := Ground.phase }, { on := 76, ground := Ground.phase }, { on := 77, ground := Ground.phase }, { on := 78, ground := Ground.phase }, { on := 79, ground := Ground.phase }, { on := 80, ground := Ground.phase }, { on := 81, ground := Ground.phase }, { on := 82, ground := Ground.phase }, { on := 83, ground := Ground.phase }, { on := 84, ground := Ground.phase }, { on := 85, ground := Ground.phase }, { on := 86, ground := Ground.phase }, { on := 87, ground := Ground.phase }, { on := 88, ground := Ground.phase }, { on := 89, ground := Ground.phase }, { on := 90, ground := Ground.phase }, { on := 91, ground := Ground.phase }, { on := 92, ground := Ground.phase }, { on := 93, ground := Ground.phase }, { on := 94, ground := Ground.phase }, { on := 95, ground := Ground.phase }, { on := 96, ground := Ground.phase }, { on := 97, ground := Ground.phase }, { on := 98, ground := Ground.phase }, { on := 99, ground := Ground.phase }].append [{ on := 100, ground := Ground.phase }, { on := 101, ground := Ground.phase }, { on := 102, ground := Ground.phase }, { on := 103, ground := Ground.phase }, { on := 104, ground := Ground.phase }, { on := 105, ground := Ground.phase }, { on := 106, ground := Ground.phase }, { on := 107, ground := Ground.phase }, { on := 108, ground := Ground.phase }, { on := 109, ground := Ground.phase }, { on := 110, ground := Ground.phase }, { on := 111, ground := Ground.phase }, { on := 112, ground := Ground.phase }, { on := 113, ground := Ground.phase }, { on := 114, ground := Ground.phase }, { on := 115, ground := Ground.phase }, { on := 116, ground := Ground.phase }, { on := 117, ground := Ground.phase }, { on := 118, ground := Ground.phase }, { on := 119, ground := Ground.phase }, { on := 120, ground := Ground.phase }, { on := 121, ground := Ground.phase }, { on := 122, ground := Ground.phase }, { on := 123, ground := Ground.phase }, { on := 124, ground := Ground.phase }, { on := 125, ground := Ground.phase }, { on := 126, ground := Ground.phase }, { on := 127, ground := Ground.phase }, { on := 128, ground := Ground.phase }, { on := 129, ground := Ground.phase }, { on := 130, ground := Ground.phase }, { on := 131, ground := Ground.phase }, { on := 132, ground := Ground.phase }, { on := 133, ground := Ground.phase }, { on := 134, ground := Ground.phase }])).toArray, guard := none }) (v := ?_) rfl (by as_aux_lemma => kernel_rfl) (by as_aux_lemma => kernel_rfl) (by as_aux_lemma => kernel_rfl) (fun _ _ _ h => h) (Or.inl ⟨by rfl, ?hy⟩) hHeld ?_
    case hy => ((intro w' hSw; (try dsimp only at hSw); go_simp); (try with_reducible rfl))
    (try simp only [Act.put, List.setIfInBounds_toArray, List.set_cons_zero, List.set_cons_succ])
    refine wpAnyH_done (by as_aux_lemma => kernel_rfl) ?_ _
    (try refine NoPanic.normal ?_)
    go_wp2_with fail
    go_ret
    exact ⟨rfl, HEW.out.trans (((((((((((((((((((((((((((((((((((((((HE1.out.trans HE2.out).trans HE3.out).trans HE4.out).trans HE5.out).trans HE6.out).trans HE7.out).trans HE8.out).trans HE9.out).trans HE10.out).trans HE11.out).trans HE12.out).trans HE13.out).trans HE14.out).trans HE15.out).trans HE16.out).trans HE17.out).trans HE18.out).trans HE19.out).trans HE20.out).trans HE21.out).trans HE22.out).trans HE23.out).trans HE24.out).trans HE25.out).trans HE26.out).trans HE27.out).trans HE28.out).trans HE29.out).trans HE30.out).trans HE31.out).trans HE32.out).trans HE33.out).trans HE34.out).trans HE35.out).trans HE36.out).trans HE37.out).trans HE38.out).trans HE39.out).trans HE40.out)⟩

end Go.Proofs.YtaljininilaemaaDoor
