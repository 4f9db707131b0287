/- The law DyadicQuos, where there is a quotient. -/
import Derived.Test.YtimpgdkeiopboaaDoorLwqo
import Derived.Deep.DeepCutAuto
namespace Go.Proofs.YtimpgdkeiopboaaDoor
open Go.RowKit

set_option maxRecDepth 100000 in
set_option maxHeartbeats 8000000 in
theorem quos_true {w : World} {na nb : Bool} {A A' B B' : Option Addr} {n c c' k e e' : Nat} {da db : Int} {a b : DV} (g : Nat) (hha : Dy w na A n c da a A' c') (hhb : Dy w nb B k e db b B' e') (hT : Tabs w) (hg : g ≤ 100) (hb0 : b.m ≠ 0)
    (fa : fewOk n da) (fb : fewOk k db) (hlong : ¬ longQ n k da db g) (la : len a.m ≤ 16) (lb : len b.m ≤ 16) (tb : b.den ≤ 100) :
    Calls Tryd.prog 3 #[dv na A n c da, dv nb B k e db, I g] w fun e w' => e = .returned (.bool true) ∧ Ext w w' := by
  have HA := Lib.hid hha; have HB := Lib.hid hhb; have HT := Lib.hid hT
  have oa := hha.wf; have ob := hhb.wf
  clear hha hhb hT
  obtain ⟨v1, v2⟩ := quo_cmp (a := a) (b := b) oa g hg tb hb0
  have hg' : g ≤ 65536 := by omega
  have lq : len (quoD a b g).m ≤ 40 := by
    have h1 : len (quoD a b g).m ≤ len (a.m * 2 ^ (g + b.den) / (b.m * 2 ^ a.den) + 1) := by
      rw [quoD_parts]
      refine Nat.le_trans (len_mono (mkD_m_le _ _ _)) (len_mono ?_)
      split <;> omega
    have h2 := len_succ (a.m * 2 ^ (g + b.den) / (b.m * 2 ^ a.den))
    have h3 := len_mono (Nat.div_le_self (a.m * 2 ^ (g + b.den)) (b.m * 2 ^ a.den))
    have h4 := len_shl2 a.m (g + b.den)
    omega
  have dq := quo_den (a := a) (b := b) (k := g) hg'
  have ld : len (ofI 1 g).m ≤ 2 := Nat.le_trans (len_mono (mkD_m_le _ _ _)) (len_abs (n := 1) (by omega) (by omega))
  have dd : (ofI 1 g).den ≤ g := den_le _ _ _ hg'
  obtain ⟨q, hq⟩ : ∃ x, quoD a b g = x := ⟨_, rfl⟩
  obtain ⟨d, hd⟩ : ∃ x, ofI 1 g = x := ⟨_, rfl⟩
  have oq : q.ok := hq ▸ quoD_ok _ _ _
  have od : d.ok := hd ▸ ofI_ok _ _
  rw [hq] at v1 v2 lq dq
  rw [hd] at v2 ld dd
  have ls := lim_add (a := q) (b := d) oq.2.1 od.2.1
  have ll := lim_mul q b
  have lh := lim_mul (addD q d) b
  obtain ⟨l, hl⟩ : ∃ x, mulD q b = x := ⟨_, rfl⟩
  obtain ⟨s, hs⟩ : ∃ x, addD q d = x := ⟨_, rfl⟩
  rw [hs] at v2 ls lh
  obtain ⟨h, hh⟩ : ∃ x, mulD s b = x := ⟨_, rfl⟩
  rw [hl] at v1 ll
  rw [hh] at v2 lh
  have Eq' : Hid (quoD a b g = q) := hq
  have Ed : Hid (ofI 1 g = d) := hd
  have El : Hid (mulD q b = l) := hl
  have Es : Hid (addD q d = s) := hs
  have Eh : Hid (mulD s b = h) := hh
  have Wq : Hid (q.ok ∧ len q.m ≤ 16777216) := ⟨oq, by omega⟩
  have Wd : Hid (d.ok ∧ len d.m ≤ 16777216) := ⟨od, by omega⟩
  have Wl : Hid (l.ok ∧ len l.m ≤ 16777216) := ⟨hl ▸ mulD_ok _ _, by omega⟩
  have Ws : Hid (s.ok ∧ len s.m ≤ 16777216) := ⟨hs ▸ addD_ok _ _, by omega⟩
  have Wh : Hid (h.ok ∧ len h.m ≤ 16777216) := ⟨hh ▸ mulD_ok _ _, by omega⟩
  have Lq : Hid (len q.m ≤ 1073741824) := by show _ ≤ _; omega
  have sb := signD_sgn b
  have sbd := sgn_bd b.q
  rw [← sb] at sbd
  have c1d := cmpD_sgn (mulD_ok q b) oa
  rw [hl] at c1d
  have c1b := sgn_bd (l.q - a.q)
  rw [← c1d] at c1b
  have c2d := cmpD_sgn oa (hh ▸ mulD_ok s b : h.ok)
  have c2b := sgn_bd (a.q - h.q)
  rw [← c2d] at c2b
  obtain ⟨z1, hz1⟩ : ∃ z, cmpD l a = z := ⟨_, rfl⟩
  obtain ⟨z2, hz2⟩ : ∃ z, cmpD a h = z := ⟨_, rfl⟩
  obtain ⟨z3, hz3⟩ : ∃ z, signD b = z := ⟨_, rfl⟩
  rw [hz1, hz3] at v1; rw [hz2, hz3] at v2
  rw [hz1] at c1b; rw [hz2] at c2b; rw [hz3] at sbd
  have E1 : Hid (cmpD l a = z1) := hz1
  have E2 : Hid (cmpD a h = z2) := hz2
  have E3 : Hid (signD b = z3) := hz3
  have pb1 : -1 ≤ z1 * z3 ∧ z1 * z3 ≤ 1 := by
    rcases (show z1 = -1 ∨ z1 = 0 ∨ z1 = 1 by omega) with r | r | r <;> rw [r] <;> omega
  have pb2 : -1 ≤ z2 * z3 ∧ z2 * z3 ≤ 1 := by
    rcases (show z2 = -1 ∨ z2 = 0 ∨ z2 = 1 by omega) with r | r | r <;> rw [r] <;> omega
  obtain ⟨r1, hr1⟩ : ∃ r, z1 * z3 = r := ⟨_, rfl⟩
  obtain ⟨r2, hr2⟩ : ∃ r, z2 * z3 = r := ⟨_, rfl⟩
  rw [hr1] at v1 pb1; rw [hr2] at v2 pb2
  clear hq hd hl hs hh hz1 hz2 hz3 sb c1d c2d oq od dq dd lq ld ls ll lh
  have HFW := Lib.hid (few2 fa fb)
  have HL := Lib.hid hlong
  clear fa fb hlong
  have HS : Hid (∀ w', Ext ((w.alloc (.cells #[.bool na, .slice A n c, I da] 24)).alloc (.cells #[.bool nb, .slice B k e, I db] 24)) w' → w'.cell? ⟨w.heap.size, 0, none⟩ = some (.bool na) ∧ w'.cell? ⟨w.heap.size, 1, none⟩ = some (.slice A n c) ∧ w'.cell? ⟨w.heap.size, 2, none⟩ = some (I da) ∧ w'.cell? ⟨w.heap.size + 1, 0, none⟩ = some (.bool nb) ∧ w'.cell? ⟨w.heap.size + 1, 1, none⟩ = some (.slice B k e) ∧ w'.cell? ⟨w.heap.size + 1, 2, none⟩ = some (I db)) := fun w' hx => by
    have ho := hx.old.1
    refine ⟨?_, ?_, ?_, ?_, ?_, ?_⟩ <;> (rw [ho _ _ (by simp; try omega)]; go_simp)
  have HW0 : Hid (Ext w ((w.alloc (.cells #[.bool na, .slice A n c, I da] 24)).alloc (.cells #[.bool nb, .slice B k e, I db] 24))) := (Ext.alloc _ _).trans (Ext.alloc _ _)
  have HZ : Hid (((w.alloc (.cells #[.bool na, .slice A n c, I da] 24)).alloc (.cells #[.bool nb, .slice B k e, I db] 24)).heap.size = w.heap.size + 1 + 1) := by show _ = _; simp
  go_enter Tryd.func3, Tryd.ntmps3
  go_upto_region 1 with fail
  go_cut [64] (fun s wx => s = .bool false ∧ Hid (Ext ((w.alloc (.cells #[.bool na, .slice A n c, I da] 24)).alloc (.cells #[.bool nb, .slice B k e, I db] 24)) wx))
  case first =>
    go_wp2_with fail
    have HN := Lib.hid (nums2 ((w.alloc (.cells #[.bool na, .slice A n c, I da] 24)).alloc (.cells #[.bool nb, .slice B k e, I db] 24)) (w.heap.size + 1 + 1) (by simp) na nb A B n k c e da db 24)
    with_reducible refine (few_true HN.out (by simp) (by omega) HFW.out).mono ?_
    rintro e wf ⟨rfl, hx⟩
    obtain ⟨x0, x1, x2, y0, y1, y2⟩ := HS.out _ ((Ext.alloc _ _).trans hx)
    have HEF := Lib.hid ((Ext.alloc _ _).trans hx)
    clear hx HN HFW
    go_wp2_with (go_at_call 5; (with_reducible refine (awake_any _ (HT.out.ext (HW0.out.trans HEF.out))).mono ?_); rintro e w0 ⟨rfl, hx⟩; have HEW := Lib.hid (HEF.out.trans hx); clear hx)
    all_goals
      first
        | (exfalso; have hl := HL.out; unfold longQ at hl; omega)
        | (go_meet; exact ⟨by have hl := HL.out; unfold longQ at hl; first | rfl | (simp; omega), HEW.out⟩)
  case rest =>
    obtain ⟨rfl, hE0⟩ := hcut
    have HAw : Hid (∀ w', Ext ((w.alloc (.cells #[.bool na, .slice A n c, I da] 24)).alloc (.cells #[.bool nb, .slice B k e, I db] 24)) w' → Dy w' na A n c da a A' c') := fun w' x => HA.out.ext (HW0.out.trans x)
    have HBw : Hid (∀ w', Ext ((w.alloc (.cells #[.bool na, .slice A n c, I da] 24)).alloc (.cells #[.bool nb, .slice B k e, I db] 24)) w' → Dy w' nb B k e db b B' e') := fun w' x => HB.out.ext (HW0.out.trans x)
    have HTw : Hid (∀ w', Ext ((w.alloc (.cells #[.bool na, .slice A n c, I da] 24)).alloc (.cells #[.bool nb, .slice B k e, I db] 24)) w' → Tabs w') := fun w' x => HT.out.ext (HW0.out.trans x)
    clear HA HB HT HFW HL HZ
    obtain ⟨x0, x1, x2, y0, y1, y2⟩ := HS.out _ hE0.out
    go_upto_region 11 with (first
      | (have hg := HE05; clear hg; go_at_call 11; (with_reducible refine (sign_any (HBw.out _ (HE05.out.trans (Ext.alloc _ _)))).mono ?_); rw [E3.out]; rintro e w6 ⟨rfl, hx⟩; have HE56 := Lib.hid ((Ext.alloc _ _).trans hx); have HB5 : Hid (∀ w', Ext w6 w' → St w' w5.heap.size (.bool d.neg) (.slice A5 (len d.m) c5) (I d.den)) := (fun w' x => ((St.new w5 _ _ _ _).ext hx).ext x); clear hx)
      | (have hg := HE24; clear hg; go_at_call 10; (with_reducible refine (make_any 1 g _ (HTw.out _ (HE02.out.trans HE24.out)) (by omega) (by omega) hg').mono ?_); rw [Ed.out]; rintro e w5 ⟨A5, c5, rfl, hon, hx⟩; have HE05 := Lib.hid ((HE02.out.trans HE24.out).trans hx); have HE25 := Lib.hid (HE24.out.trans hx); have HI5 := Lib.hid (Dy.at_ hon Wd.out.1 Wd.out.2); clear hon hx; obtain ⟨x0, x1, x2, y0, y1, y2⟩ := HS.out _ (HE05.out.trans (Ext.alloc _ (.cells #[.bool d.neg, .slice A5 (len d.m) c5, I d.den] 24))))
      | (have hg := HE12; clear hg; go_at_call 9; (with_reducible refine (same_true (d := q) (HI1.out _ (HE12.out.trans (Ext.alloc _ _))).rd (HI2.out _ (Ext.alloc _ _)).rd Lq.out).mono ?_); rintro e w4 ⟨rfl, hx⟩; have HE24 := Lib.hid ((Ext.alloc _ _).trans hx); clear hx)
      | (have hg := HE12; clear hg; go_at_call 8; (with_reducible refine (num_nilq _).mono ?_); rintro e w3 ⟨rfl, rfl⟩)
      | (have hg := HE1; clear hg; go_at_call 7; (with_reducible refine (rquo_any g (HAw.out _ (HE1.out.trans (Ext.alloc _ _))) (HBw.out _ (HE1.out.trans (Ext.alloc _ _))) hg' hb0).mono ?_); rw [Eq'.out]; rintro e w2 ⟨A2, c2, rfl, hon, hx⟩; have HE12 := Lib.hid ((Ext.alloc _ _).trans hx); have HE02 := Lib.hid (HE1.out.trans ((Ext.alloc _ _).trans hx)); have HI2 := Lib.hid (Dy.at_ hon Wq.out.1 Wq.out.2); have HB1 : Hid (∀ w', Ext w2 w' → St w' w1.heap.size (.bool q.neg) (.slice A1 (len q.m) c1) (I q.den)) := (fun w' x => ((St.new w1 _ _ _ _).ext hx).ext x); clear hon hx; obtain ⟨z0', z1', z2'⟩ := HB1.out _ (Ext.alloc w2 (.cells #[.bool q.neg, .slice A2 (len q.m) c2, I q.den] 24)))
      | (go_at_call 6; (with_reducible refine (quo_any g (HAw.out _ hE0.out) (HBw.out _ hE0.out) (HTw.out _ hE0.out) hg' hb0).mono ?_); rw [Eq'.out]; rintro e w1 ⟨A1, c1, rfl, hon, hx⟩; have HE1 := Lib.hid (hE0.out.trans hx); have HI1 := Lib.hid (Dy.at_ hon Wq.out.1 Wq.out.2); clear hon hx; obtain ⟨x0, x1, x2, y0, y1, y2⟩ := HS.out _ (HE1.out.trans (Ext.alloc _ (.cells #[.bool q.neg, .slice A1 (len q.m) c1, I q.den] 24)))))
    have HE06 := Lib.hid (HE05.out.trans HE56.out)
    have K1 : Hid (∀ w', Ext w6 w' → Dy w' q.neg A1 (len q.m) c1 q.den q A1 c1) := fun w' x => HI1.out _ (HE12.out.trans (HE25.out.trans (HE56.out.trans x)))
    have K5 : Hid (∀ w', Ext w6 w' → Dy w' d.neg A5 (len d.m) c5 d.den d A5 c5) := fun w' x => HI5.out _ (HE56.out.trans x)
    have KA : Hid (∀ w', Ext w6 w' → Dy w' na A n c da a A' c') := fun w' x => HAw.out _ (HE06.out.trans x)
    have KB : Hid (∀ w', Ext w6 w' → Dy w' nb B k e db b B' e') := fun w' x => HBw.out _ (HE06.out.trans x)
    have KT : Hid (∀ w', Ext w6 w' → Tabs w') := fun w' x => HTw.out _ (HE06.out.trans x)
    have KS : Hid (∀ w', Ext w6 w' → w'.cell? ⟨w.heap.size, 0, none⟩ = some (.bool na) ∧ w'.cell? ⟨w.heap.size, 1, none⟩ = some (.slice A n c) ∧ w'.cell? ⟨w.heap.size, 2, none⟩ = some (I da)) := fun w' x => by
      obtain ⟨x0, x1, x2, y0, y1, y2⟩ := HS.out _ (HE06.out.trans x)
      exact ⟨x0, x1, x2⟩
    obtain ⟨p1, hp1⟩ : ∃ p, w1.heap.size = p := ⟨_, rfl⟩
    obtain ⟨p5, hp5⟩ : ∃ p, w5.heap.size = p := ⟨_, rfl⟩
    have KC : Hid (∀ w', Ext w6 w' → w'.cell? ⟨p1, 0, none⟩ = some (.bool q.neg) ∧ w'.cell? ⟨p1, 1, none⟩ = some (.slice A1 (len q.m) c1) ∧ w'.cell? ⟨p1, 2, none⟩ = some (I q.den) ∧ w'.cell? ⟨w.heap.size + 1, 0, none⟩ = some (.bool nb) ∧ w'.cell? ⟨w.heap.size + 1, 1, none⟩ = some (.slice B k e) ∧ w'.cell? ⟨w.heap.size + 1, 2, none⟩ = some (I db) ∧ w'.cell? ⟨p5, 0, none⟩ = some (.bool d.neg) ∧ w'.cell? ⟨p5, 1, none⟩ = some (.slice A5 (len d.m) c5) ∧ w'.cell? ⟨p5, 2, none⟩ = some (I d.den)) := fun w' x => by
      obtain ⟨x0, x1, x2, y0, y1, y2⟩ := HS.out _ (HE06.out.trans x)
      obtain ⟨q0, q1, q2⟩ := HB1.out _ (HE25.out.trans (HE56.out.trans x))
      obtain ⟨d0, d1, d2⟩ := HB5.out _ x
      rw [hp1] at q0 q1 q2
      rw [hp5] at d0 d1 d2
      exact ⟨q0, q1, q2, y0, y1, y2, d0, d1, d2⟩
    have HW6 := Lib.hid (HW0.out.trans HE06.out)
    rw [hp1, hp5]
    clear hp1 hp5 HS HE1 HE12 HE02 HE24 HE25 HE05 HE56 HE06 HI1 HI2 HI5 HB1 HB5 HAw HBw HTw HW0 hE0 z0' z1' z2'
    have hk := KC.out _ (Ext.refl _)
    go_cut [14, 15] (fun s14 s15 wx => ∃ p p' A7 c7 A8 c8, s14 = .pointer (some ⟨p, 0, none⟩) ∧ s15 = .pointer (some ⟨p', 0, none⟩) ∧ Hid (LoHi w6 wx p p' l h A7 c7 A8 c8))
    case first =>
      clear KA KS HW6 E1 E2 E3 x0 x1 x2 y0 y1 y2
      go_region_held3 (fun w' => w'.cell? ⟨p1, 0, none⟩ = some (.bool q.neg) ∧ w'.cell? ⟨p1, 1, none⟩ = some (.slice A1 (len q.m) c1) ∧ w'.cell? ⟨p1, 2, none⟩ = some (I q.den) ∧ w'.cell? ⟨w.heap.size + 1, 0, none⟩ = some (.bool nb) ∧ w'.cell? ⟨w.heap.size + 1, 1, none⟩ = some (.slice B k e) ∧ w'.cell? ⟨w.heap.size + 1, 2, none⟩ = some (I db) ∧ w'.cell? ⟨p5, 0, none⟩ = some (.bool d.neg) ∧ w'.cell? ⟨p5, 1, none⟩ = some (.slice A5 (len d.m) c5) ∧ w'.cell? ⟨p5, 2, none⟩ = some (I d.den)) (first | with_reducible assumption | exact KC.out _ (by (with_reducible (repeat (first | exact Ext.refl _ | assumption | (refine Ext.toSet ?_ (by omega)) | refine Ext.toAlloc ?_ | refine Ext.toDrew ?_ | refine Ext.toDrewN ?_ | refine Ext.trans ?_ (by assumption)))); (first | done | fail "no")))
        (first
          | (have hg := hx2; clear hg; go_at_call 12; (with_reducible refine (mul_any (HI9.out _ (by (with_reducible (repeat (first | exact Ext.refl _ | assumption | (refine Ext.toSet ?_ (by omega)) | refine Ext.toAlloc ?_ | refine Ext.toDrew ?_ | refine Ext.toDrewN ?_ | refine Ext.trans ?_ (by assumption)))); (first | done | fail "no"))) (KB.out _ (by (with_reducible (repeat (first | exact Ext.refl _ | assumption | (refine Ext.toSet ?_ (by omega)) | refine Ext.toAlloc ?_ | refine Ext.toDrew ?_ | refine Ext.toDrewN ?_ | refine Ext.trans ?_ (by assumption)))); (first | done | fail "no"))) (KT.out _ (by (with_reducible (repeat (first | exact Ext.refl _ | assumption | (refine Ext.toSet ?_ (by omega)) | refine Ext.toAlloc ?_ | refine Ext.toDrew ?_ | refine Ext.toDrewN ?_ | refine Ext.trans ?_ (by assumption)))); (first | done | fail "no")))).mono ?_); rw [Eh.out]; rintro e w9 ⟨A8, c8, rfl, hon3, hx3⟩; have O3 := Lib.hid hon3; clear hon3; have g3 := Ext.size hx3; (try simp only [World.size_alloc] at g3); (first
          | (have X1 := Lib.hid (V1.out.ext hx3); have X2 := Lib.hid (V2.out.ext hx3); obtain ⟨⟨x10, x11, x12⟩, x13⟩ := X1.out; obtain ⟨⟨x20, x21, x22⟩, x23⟩ := X2.out; have l1 := X1.out.lt; have m1 := Nat.ne_of_lt l1; have n1 := Nat.ne_of_gt l1; have l2 := X2.out.lt; have m2 := Nat.ne_of_lt l2; have n2 := Nat.ne_of_gt l2)
          | ((with_reducible have u2 := qone_new hx3); have X2 := Lib.hid u2; have X1 := Lib.hid (V1.out.ext ((Ext.alloc _ _).trans hx3)); clear u2; obtain ⟨⟨x10, x11, x12⟩, x13⟩ := X1.out; obtain ⟨⟨x20, x21, x22⟩, x23⟩ := X2.out; have l1 := X1.out.lt; have m1 := Nat.ne_of_lt l1; have n1 := Nat.ne_of_gt l1; have l2 := X2.out.lt; have m2 := Nat.ne_of_lt l2; have n2 := Nat.ne_of_gt l2)
          | (have X1 := Lib.hid (V1.out.ext hx3); obtain ⟨⟨x10, x11, x12⟩, x13⟩ := X1.out; have l1 := X1.out.lt; have m1 := Nat.ne_of_lt l1; have n1 := Nat.ne_of_gt l1)
          | ((with_reducible have uu := qtwo_new hx3); obtain ⟨u1, u2⟩ := uu; have X1 := Lib.hid u1; have X2 := Lib.hid u2; clear u1 u2; obtain ⟨⟨x10, x11, x12⟩, x13⟩ := X1.out; obtain ⟨⟨x20, x21, x22⟩, x23⟩ := X2.out; have l1 := X1.out.lt; have m1 := Nat.ne_of_lt l1; have n1 := Nat.ne_of_gt l1; have l2 := X2.out.lt; have m2 := Nat.ne_of_lt l2; have n2 := Nat.ne_of_gt l2)
          | ((with_reducible have u1 := qone_new hx3); have X1 := Lib.hid u1; clear u1; obtain ⟨⟨x10, x11, x12⟩, x13⟩ := X1.out; have l1 := X1.out.lt; have m1 := Nat.ne_of_lt l1; have n1 := Nat.ne_of_gt l1)
          | skip))
          | (have hg := hx1; clear hg; go_at_call 13; (with_reducible refine (add_any (K1.out _ (by (with_reducible (repeat (first | exact Ext.refl _ | assumption | (refine Ext.toSet ?_ (by omega)) | refine Ext.toAlloc ?_ | refine Ext.toDrew ?_ | refine Ext.toDrewN ?_ | refine Ext.trans ?_ (by assumption)))); (first | done | fail "no"))) (K5.out _ (by (with_reducible (repeat (first | exact Ext.refl _ | assumption | (refine Ext.toSet ?_ (by omega)) | refine Ext.toAlloc ?_ | refine Ext.toDrew ?_ | refine Ext.toDrewN ?_ | refine Ext.trans ?_ (by assumption)))); (first | done | fail "no"))) (KT.out _ (by (with_reducible (repeat (first | exact Ext.refl _ | assumption | (refine Ext.toSet ?_ (by omega)) | refine Ext.toAlloc ?_ | refine Ext.toDrew ?_ | refine Ext.toDrewN ?_ | refine Ext.trans ?_ (by assumption)))); (first | done | fail "no")))).mono ?_); rw [Es.out]; rintro e w8 ⟨A9, c9, rfl, hon2, hx2⟩; have HI9 := Lib.hid (Dy.at_ hon2 Ws.out.1 Ws.out.2); clear hon2; have g2 := Ext.size hx2; (try simp only [World.size_alloc] at g2); (first
          | (have V1 := Lib.hid (U1.out.ext hx2); have V2 := Lib.hid (U2.out.ext hx2))
          | ((with_reducible have u2 := qone_new hx2); have V2 := Lib.hid u2; have V1 := Lib.hid (U1.out.ext ((Ext.alloc _ _).trans hx2)); clear u2)
          | (have V1 := Lib.hid (U1.out.ext hx2))
          | ((with_reducible have uu := qtwo_new hx2); obtain ⟨u1, u2⟩ := uu; have V1 := Lib.hid u1; have V2 := Lib.hid u2; clear u1 u2)
          | ((with_reducible have u1 := qone_new hx2); have V1 := Lib.hid u1; clear u1)
          | skip))
          | (go_at_call 12; (with_reducible refine (mul_any (K1.out _ (by (with_reducible (repeat (first | exact Ext.refl _ | assumption | (refine Ext.toSet ?_ (by omega)) | refine Ext.toAlloc ?_ | refine Ext.toDrew ?_ | refine Ext.toDrewN ?_ | refine Ext.trans ?_ (by assumption)))); (first | done | fail "no"))) (KB.out _ (by (with_reducible (repeat (first | exact Ext.refl _ | assumption | (refine Ext.toSet ?_ (by omega)) | refine Ext.toAlloc ?_ | refine Ext.toDrew ?_ | refine Ext.toDrewN ?_ | refine Ext.trans ?_ (by assumption)))); (first | done | fail "no"))) (KT.out _ (by (with_reducible (repeat (first | exact Ext.refl _ | assumption | (refine Ext.toSet ?_ (by omega)) | refine Ext.toAlloc ?_ | refine Ext.toDrew ?_ | refine Ext.toDrewN ?_ | refine Ext.trans ?_ (by assumption)))); (first | done | fail "no")))).mono ?_); rw [El.out]; rintro e w7 ⟨A7, c7, rfl, hon1, hx1⟩; have O1 := Lib.hid hon1; clear hon1; have g1 := Ext.size hx1; (try simp only [World.size_drew, World.size_alloc] at g1); (first | ((with_reducible have uu := qtwo_newd hx1); obtain ⟨u1, u2⟩ := uu; have U1 := Lib.hid u1; have U2 := Lib.hid u2; clear u1 u2) | ((with_reducible have u1 := qone_newd hx1); have U1 := Lib.hid u1; clear u1) | skip)))
      all_goals
        go_wp2_with fail
        go_meet
        have o1 := O1.out
        have o3 := O3.out
        simp only [World.size_drew, World.size_alloc] at o1 o3
        refine ⟨_, _, A7, c7, A8, c8, rfl, rfl, (by (with_reducible (repeat (first | exact Ext.refl _ | assumption | (refine Ext.toSet ?_ (by omega)) | refine Ext.toAlloc ?_ | refine Ext.toDrew ?_ | refine Ext.toDrewN ?_ | refine Ext.trans ?_ (by assumption)))); (first | done | fail "no")), ⟨by go_simp, by go_simp, by go_simp⟩, ⟨by go_simp, by go_simp, by go_simp⟩, ?_, ?_⟩
        · with_reducible (repeat (first | refine Ofq.setp ?_ _ _ | refine Ofq.setq ?_ _ _ | refine Ofq.toAlloc ?_))
          exact (On.ofq o1 (by omega) (by omega)).ext (by (with_reducible (repeat (first | exact Ext.refl _ | assumption | (refine Ext.toSet ?_ (by omega)) | refine Ext.toAlloc ?_ | refine Ext.toDrew ?_ | refine Ext.toDrewN ?_ | refine Ext.trans ?_ (by assumption)))); (first | done | fail "no"))
        · with_reducible (repeat (first | refine Ofq.setp ?_ _ _ | refine Ofq.setq ?_ _ _ | refine Ofq.toAlloc ?_))
          exact (On.ofq o3 (by omega) (by omega)).ext (by (with_reducible (repeat (first | exact Ext.refl _ | assumption | (refine Ext.toSet ?_ (by omega)) | refine Ext.toAlloc ?_ | refine Ext.toDrew ?_ | refine Ext.toDrewN ?_ | refine Ext.trans ?_ (by assumption)))); (first | done | fail "no"))
    case rest =>
      obtain ⟨p, p', A7, c7, A8, c8, rfl, rfl, hLH⟩ := hcut
      obtain ⟨hx6, hsl, hsh, hol, hoh⟩ := hLH.out
      have HX := Lib.hid hx6
      have SH := Lib.hid hsh
      have DL : Hid (∀ w', Ext wc w' → Dy w' l.neg A7 (len l.m) c7 l.den l A7 c7) := fun w' x => Dy.valid (hol.1.1.ext x) hol.1.2 Wl.out.1 Wl.out.2
      have DH : Hid (∀ w', Ext wc w' → Dy w' h.neg A8 (len h.m) c8 h.den h A8 c8) := fun w' x => Dy.valid (hoh.1.1.ext x) hoh.1.2 Wh.out.1 Wh.out.2
      obtain ⟨l0, l1, l2⟩ := hsl
      obtain ⟨x0, x1, x2⟩ := KS.out _ hx6
      clear hLH hol hoh hsh hx6 hk KC K1 K5 KB KT
      go_wp2_with (first
        | (have hg := HC1; clear hg; go_at_call 14; (with_reducible refine (cmp_any (KA.out _ (HX.out.trans HC1.out)) (DH.out _ HC1.out)).mono ?_); rw [E2.out]; rintro e w8 ⟨rfl, hx⟩; have HC2 := Lib.hid (HC1.out.trans hx); clear hx)
        | (go_at_call 14; (with_reducible refine (cmp_any (DL.out _ (Ext.refl _)) (KA.out _ HX.out)).mono ?_); rw [E1.out]; rintro e w7 ⟨rfl, hx⟩; have HC1 := Lib.hid hx; obtain ⟨x0, x1, x2⟩ := KS.out _ (HX.out.trans hx); obtain ⟨h0, h1, h2⟩ := SH.out.ext hx; clear hx))
      all_goals
        go_ret
        exact ⟨rfl, HW6.out.trans (HX.out.trans HC2.out)⟩
end Go.Proofs.YtimpgdkeiopboaaDoor
