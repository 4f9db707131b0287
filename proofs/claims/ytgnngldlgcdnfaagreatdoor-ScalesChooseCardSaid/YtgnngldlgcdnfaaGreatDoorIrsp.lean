/- The reference's span: the least interval with some numbers. -/
import Derived.Test.YtgnngldlgcdnfaaGreatDoorIvl
import Derived.Test.YtgnngldlgcdnfaaGreatDoorRefhj
import Derived.Deep.RegionWith
namespace Go.Proofs.YtgnngldlgcdnfaaGreatDoor
open Go.RowKit

/-- The ends, as the reference reckons them, after k numbers behind the first. -/
def slo (D : Nat → DV) : Nat → DV
  | 0 => D 0
  | k + 1 => minD (slo D k) (D (k + 1))
def shi (D : Nat → DV) : Nat → DV
  | 0 => D 0
  | k + 1 => maxD (shi D k) (D (k + 1))
/-- Numbers within the bounds that the reference's minima ask for. -/
def Bdd (d : DV) : Prop := d.ok ∧ len d.m ≤ 4194304
theorem bd_sub {a b : DV} (ha : Bdd a) (hb : Bdd b) : len (subD a b).m ≤ 16777216 ∧ (subD a b).ok := by
  obtain ⟨o1, l1⟩ := ha
  obtain ⟨o2, l2⟩ := hb
  have := lim_sub o1.2.1 o2.2.1
  exact ⟨by omega, subD_ok _ _⟩
theorem slo_bd {D : Nat → DV} {N : Nat} (h : ∀ i, i ≤ N → Bdd (D i)) : ∀ k, k ≤ N → Bdd (slo D k) ∧ Bdd (shi D k)
  | 0, _ => ⟨h 0 (by omega), h 0 (by omega)⟩
  | k + 1, hk => by
    obtain ⟨i1, i2⟩ := slo_bd h k (by omega)
    exact ⟨sz_min (P := Bdd) i1 (h (k + 1) hk), sz_max (P := Bdd) i2 (h (k + 1) hk)⟩
/-- Between the rounds: the interval lies in the box p. -/
def Spn (w wx : World) (base p : Nat) (lo hi : DV) : Prop := ∃ A c B e,
  Ext w wx ∧ B6 wx p (.bool lo.neg) (.slice A (len lo.m) c) (I lo.den) (.bool hi.neg) (.slice B (len hi.m) e) (I hi.den) ∧
  B6 wx w.heap.size (.bool false) (.slice none 0 0) (I 0) (.bool false) (.slice none 0 0) (I 0) ∧ w.heap.size < p ∧
  Off wx base p w.heap.size A (len lo.m) c (dg lo.m) ∧ Off wx base p w.heap.size B (len hi.m) e (dg hi.m)
/-- A store into a number's half of a box. -/
theorem B6.lo3 {w : World} {g : Nat} {v0 v1 v2 v3 v4 v5 : Value} (h : B6 w g v0 v1 v2 v3 v4 v5) (u0 u1 u2 : Value) : B6 (((w.setCell ⟨g, 0, none⟩ u0).setCell ⟨g, 1, none⟩ u1).setCell ⟨g, 2, none⟩ u2) g u0 u1 u2 v3 v4 v5 := by
  have hl := h.lt
  obtain ⟨⟨h0, h1, h2, h3, h4, h5⟩, hf⟩ := h
  exact ⟨⟨by go_simp, by go_simp, by go_simp, by go_simp, by go_simp, by go_simp⟩, fun i => by simp [hf i]⟩
theorem B6.hi3 {w : World} {g : Nat} {v0 v1 v2 v3 v4 v5 : Value} (h : B6 w g v0 v1 v2 v3 v4 v5) (u3 u4 u5 : Value) : B6 (((w.setCell ⟨g, 3, none⟩ u3).setCell ⟨g, 4, none⟩ u4).setCell ⟨g, 5, none⟩ u5) g v0 v1 v2 u3 u4 u5 := by
  have hl := h.lt
  obtain ⟨⟨h0, h1, h2, h3, h4, h5⟩, hf⟩ := h
  exact ⟨⟨by go_simp, by go_simp, by go_simp, by go_simp, by go_simp, by go_simp⟩, fun i => by simp [hf i]⟩
/-- Both halves are written. -/
theorem spn_of {w W : World} {base p : Nat} {lo hi : DV} {A B : Option Addr} {c e : Nat} {a0 a1 a2 b0 b1 b2 : Value} (hx : Ext w W) (hp : B6 W p a0 a1 a2 b0 b1 b2)
    (hz : B6 W w.heap.size (.bool false) (.slice none 0 0) (I 0) (.bool false) (.slice none 0 0) (I 0)) (h1 : w.heap.size < p)
    (ha : Off W base p w.heap.size A (len lo.m) c (dg lo.m)) (hb : Off W base p w.heap.size B (len hi.m) e (dg hi.m)) :
    Spn w ((((((W.setCell ⟨p, 0, none⟩ (.bool lo.neg)).setCell ⟨p, 1, none⟩ (.slice A (len lo.m) c)).setCell ⟨p, 2, none⟩ (I lo.den)).setCell ⟨p, 3, none⟩ (.bool hi.neg)).setCell ⟨p, 4, none⟩ (.slice B (len hi.m) e)).setCell ⟨p, 5, none⟩ (I hi.den)) base p lo hi := by
  refine ⟨A, c, B, e, ?_, (hp.lo3 _ _ _).hi3 _ _ _, ?_, h1, ?_, ?_⟩
  · exact Ext.set (Ext.set (Ext.set (ext_set3 hx (by omega) _ _ _) (by simp; omega) _) (by simp; omega) _) (by simp; omega) _
  · have o := (hz.far3 (g' := p) (by omega) (.bool lo.neg) (.slice A (len lo.m) c) (I lo.den))
    obtain ⟨⟨h0, h1', h2, h3, h4, h5⟩, hf⟩ := o
    have hne : ¬ w.heap.size = p := by omega
    have hne2 : ¬ p = w.heap.size := by omega
    exact ⟨⟨by go_simp, by go_simp, by go_simp, by go_simp, by go_simp, by go_simp⟩, fun i => by simp [hf i]⟩
  · exact ((((ha.set3p _ _ _).setp _ _).setp _ _).setp _ _)
  · exact ((((hb.set3p _ _ _).setp _ _).setp _ _).setp _ _)
theorem St.of_nth {w : World} {g i : Nat} {n : Bool} {A A' : Option Addr} {k c c' : Nat} {d : Int} {x : DV} (h : Nth w g i n A k c d x A' c') : Dy w n A k c d x A' c' := h.2

set_option maxRecDepth 100000 in
set_option maxHeartbeats 8000000 in
theorem rpoint_any {w : World} {n0 : Bool} {A0 A0' : Option Addr} {k0 c0 c0' : Nat} {d0 : Int} {x : DV} (hx : Dy w n0 A0 k0 c0 d0 x A0' c0') :
    Calls Tryz.prog 96 #[dv n0 A0 k0 c0 d0] w fun e w' => e = .returned (ivd x A0' c0' x A0' c0') ∧ Ext w w' := by
  have HX := Lib.hid hx; clear hx
  have B0 := Lib.hid ((Bx.new w (.bool n0) (.slice A0 k0 c0) (I d0) 56).ext (Ext.alloc _ (.cells #[.bool false, .slice none 0 0, I 0, .bool false, .slice none 0 0, I 0] 58)))
  have B1 : Hid (B6 ((w.alloc (.cells #[.bool n0, .slice A0 k0 c0, I d0] 56)).alloc (.cells #[.bool false, .slice none 0 0, I 0, .bool false, .slice none 0 0, I 0] 58)) (w.heap.size + 1) (.bool false) (.slice none 0 0) (I 0) (.bool false) (.slice none 0 0) (I 0)) := by
    have s := B6.new (w.alloc (.cells #[.bool n0, .slice A0 k0 c0, I d0] 56)) (.bool false) (.slice none 0 0) (I 0) (.bool false) (.slice none 0 0) (I 0) 58
    rw [show (w.alloc (.cells #[.bool n0, .slice A0 k0 c0, I d0] 56)).heap.size = w.heap.size + 1 by simp] at s
    exact s
  have E1 : Hid (Ext w ((w.alloc (.cells #[.bool n0, .slice A0 k0 c0, I d0] 56)).alloc (.cells #[.bool false, .slice none 0 0, I 0, .bool false, .slice none 0 0, I 0] 58))) := (Ext.alloc _ _).trans (Ext.alloc _ _)
  obtain ⟨⟨k0, k1, k2⟩, kz⟩ := B0.out
  go_enter Tryz.func96, Tryz.ntmps96
  go_wp2_with (go_at_call 76; (with_reducible refine (HX.out.norm _ E1.out).mono ?_); rintro e1 w1 ⟨rfl, hx⟩; clear k0 k1 k2 kz; obtain ⟨⟨k0, k1, k2⟩, kz⟩ := B0.out.ext hx; obtain ⟨⟨r0, r1, r2, r3, r4, r5⟩, rz⟩ := B1.out.ext hx; have E2 := Lib.hid (E1.out.trans hx); have hl0 := (B0.out.ext hx).lt; clear hx)
  exact bodyPost_ret (v := ivd x A0' c0' x A0' c0') (by simp [results, Tryz.results96, go_sem, r0, r1, r2, r3, r4, r5]) rfl ⟨rfl, ext_set6 (ext_set3 E2.out (by omega) _ _ _) (by omega) _ _ _ _ _ _⟩

set_option maxRecDepth 100000 in
set_option maxHeartbeats 60000000 in
theorem span_any {w : World} {g N : Nat} {ng : Nat → Bool} {As A' : Nat → Option Addr} {ns cs c' : Nat → Nat} {dn : Nat → Int} {D : Nat → DV}
    (hN : ∀ i, i ≤ N → Nth w g i (ng i) (As i) (ns i) (cs i) (dn i) (D i) (A' i) (c' i)) (hD : ∀ i, i ≤ N → Bdd (D i)) (hg : g < w.heap.size) (hL : N ≤ 1000) (hN0 : 0 < N) :
    Calls Tryz.prog 92 #[.slice (some ⟨g, 0, none⟩) (N + 1) (N + 1)] w (IvRes (slo D N) (shi D N) w) := by
  have HN := Lib.hid hN; have HD := Lib.hid hD; clear hN hD
  have HW := Lib.hid (slo_bd HD.out)
  have H0 : Hid (slo D 0 = D 0 ∧ shi D 0 = D 0) := ⟨rfl, rfl⟩
  have HS : Hid (∀ k, minD (slo D k) (D (k + 1)) = slo D (k + 1) ∧ maxD (shi D k) (D (k + 1)) = shi D (k + 1)) := fun k => ⟨rfl, rfl⟩
  have BZ0 := Lib.hid (B6.new w (.bool false) (.slice none 0 0) (I 0) (.bool false) (.slice none 0 0) (I 0) 58)
  have E0 := Lib.hid (Ext.alloc w (.cells #[.bool false, .slice none 0 0, I 0, .bool false, .slice none 0 0, I 0] 58))
  obtain ⟨⟨x0, x1, x2⟩, hd0⟩ := HN.out 0 (by omega)
  have y0 := (E0.out.old.1 _ _ hg).trans x0
  have y1 := (E0.out.old.1 _ _ hg).trans x1
  have y2 := (E0.out.old.1 _ _ hg).trans x2
  have HX0 := Lib.hid hd0
  clear x0 x1 x2 hd0
  simp only [Nat.zero_mul, Nat.zero_add] at y0 y1 y2
  have hNi : (1 : Int) ≤ (N : Int) + 1 := by omega
  go_enter Tryz.func92, Tryz.ntmps92
  go_wp2_with (go_at_call 96; (with_reducible refine (rpoint_any (HX0.out.ext E0.out)).mono ?_); rintro e1 w1 ⟨rfl, hx⟩; have E1 := Lib.hid (E0.out.trans hx); have BZ1 := Lib.hid (BZ0.out.ext hx); clear y0 y1 y2 hx)
  have hz1 := E1.out.size
  have hl0 : Hid (Spn w (w1.alloc (.cells #[.bool (D 0).neg, .slice (A' 0) (len (D 0).m) (c' 0), I (D 0).den, .bool (D 0).neg, .slice (A' 0) (len (D 0).m) (c' 0), I (D 0).den] 58)) (if (0 : Nat) = 0 then 0 else w.heap.size + 1) w1.heap.size (slo D 0) (shi D 0)) := by
    have o : Off (w1.alloc (.cells #[.bool (D 0).neg, .slice (A' 0) (len (D 0).m) (c' 0), I (D 0).den, .bool (D 0).neg, .slice (A' 0) (len (D 0).m) (c' 0), I (D 0).den] 58)) 0 w1.heap.size w.heap.size (A' 0) (len (D 0).m) (c' 0) (dg (D 0).m) := by
      refine ⟨⟨HX0.out.rd.ext (E1.out.trans (Ext.alloc _ _)), HX0.out.sl, fun _ _ _ => Nat.zero_le _⟩, fun hn a ha => ?_⟩
      obtain ⟨b, o, e, hb, _⟩ := HX0.out.rd hn
      rw [e] at ha; injection ha with ha; subst ha
      exact ⟨by show b ≠ _; omega, by show b ≠ _; omega⟩
    have hlt := BZ1.out.lt
    exact ⟨_, _, _, _, E1.out.trans (Ext.alloc _ _), B6.new w1 _ _ _ _ _ _ _, BZ1.out.ext (Ext.alloc _ _), hlt, o, o⟩
  have HLT := Lib.hid BZ1.out.lt
  generalize w1.heap.size = p at *
  generalize w1.alloc (.cells #[.bool (D 0).neg, .slice (A' 0) (len (D 0).m) (c' 0), I (D 0).den, .bool (D 0).neg, .slice (A' 0) (len (D 0).m) (c' 0), I (D 0).den] 58) = wl at *
  clear E1 E0 BZ0 BZ1 HX0 H0 hz1
  go_loopw [13] (fun s wr => ∃ k : Nat, k ≤ N ∧ s = I k ∧ Hid (Spn w wr (if k = 0 then 0 else w.heap.size + 1) p (slo D k) (shi D k))) (fun s _ => N - (intOf s).toNat)
  case atStart => exact ⟨0, Nat.zero_le _, rfl, hl0⟩
  case round =>
    obtain ⟨k, hk, rfl, hlr⟩ := hrel
    clear hl0
    by_cases hlt : k < N
    · obtain ⟨A, c, B, e, hx, hp, hz, h1, oa, ob⟩ := hlr.out
      obtain ⟨⟨c0, c1, c2⟩, hd⟩ := HN.out (k + 1) (by omega)
      obtain ⟨l1, l2⟩ := HW.out k hk
      have l3 := HD.out (k + 1) (by omega)
      rw [show (k + 1) * 3 = 3 + k * 3 by omega] at c0 c1 c2
      have d0 := (hx.old.1 _ _ hg).trans c0
      have d1 := (hx.old.1 _ _ hg).trans c1
      have d2 := (hx.old.1 _ _ hg).trans c2
      have DL := Lib.hid (Dy.valid oa.1.rd oa.1.ok l1.1 (by have := l1.2; omega))
      have DH := Lib.hid (Dy.valid ob.1.rd ob.1.ok l2.1 (by have := l2.2; omega))
      have DX := Lib.hid (hd.ext hx)
      have S1 := Lib.hid (bd_sub l1 l3)
      have S2 := Lib.hid (bd_sub l2 l3)
      have EW := Lib.hid hx; have HP := Lib.hid hp; have HZ := Lib.hid hz; have HG1 := Lib.hid h1
      have hp0 := hp.lt
      have hpn := Nat.ne_of_lt hp0; have hpn' := Nat.ne_of_gt hp0
      obtain ⟨⟨a0, a1, a2, b0, b1, b2⟩, a3⟩ := hp
      have i1 : (0 : Int) ≤ (k : Int) := by omega
      have i2 : (k : Int) < (N : Int) := by omega
      have HT8 := Lib.hid (St.new wr (.bool (ng (k + 1))) (.slice (As (k + 1)) (ns (k + 1)) (cs (k + 1))) (I (dn (k + 1))) 56)
      have hlt8 := HT8.out.lt
      clear hlr hx hz h1 oa ob c0 c1 c2 hd l1 l2 l3 HN HW HD
      go_upto_region 5 with fail
      go_region_with (first
        | (have hg1 := hx1; clear hg1; go_at_call 158; (with_reducible refine (rmax_any (DH.out.ext (by (with_reducible (repeat (first | exact Ext.refl _ | assumption | (refine Ext.toSet ?_ (by omega)) | refine Ext.toAlloc ?_ | refine Ext.toDrew ?_ | refine Ext.toDrewN ?_ | refine Ext.trans ?_ (by assumption)))); (first | done | fail "no"))) (DX.out.ext (by (with_reducible (repeat (first | exact Ext.refl _ | assumption | (refine Ext.toSet ?_ (by omega)) | refine Ext.toAlloc ?_ | refine Ext.toDrew ?_ | refine Ext.toDrewN ?_ | refine Ext.trans ?_ (by assumption)))); (first | done | fail "no"))) S2.out.1 S2.out.2).mono ?_); rw [(HS.out k).2]; rintro e w2 ⟨A2, c2, rfl, hon2, hx2⟩; have O2 := Lib.hid hon2; clear hon2; have P2 := Lib.hid (P1.out.ext hx2); obtain ⟨⟨f0, f1, f2, f4, f5, f6⟩, f3⟩ := P2.out)
        | (go_at_call 157; (with_reducible refine (rmin_any (DL.out.ext (by (with_reducible (repeat (first | exact Ext.refl _ | assumption | (refine Ext.toSet ?_ (by omega)) | refine Ext.toAlloc ?_ | refine Ext.toDrew ?_ | refine Ext.toDrewN ?_ | refine Ext.trans ?_ (by assumption)))); (first | done | fail "no"))) (DX.out.ext (by (with_reducible (repeat (first | exact Ext.refl _ | assumption | (refine Ext.toSet ?_ (by omega)) | refine Ext.toAlloc ?_ | refine Ext.toDrew ?_ | refine Ext.toDrewN ?_ | refine Ext.trans ?_ (by assumption)))); (first | done | fail "no"))) S1.out.1 S1.out.2).mono ?_); rw [(HS.out k).1]; rintro e w1 ⟨A1, c1, rfl, hon1, hx1⟩; have O1 := Lib.hid hon1; clear hon1; have P1 := Lib.hid (HP.out.ext (w' := w1) (by (with_reducible (repeat (first | exact Ext.refl _ | assumption | (refine Ext.toSet ?_ (by omega)) | refine Ext.toAlloc ?_ | refine Ext.toDrew ?_ | refine Ext.toDrewN ?_ | refine Ext.trans ?_ (by assumption)))); (first | done | fail "no"))); have T1 := Lib.hid (HT8.out.ext (w' := w1) (by (with_reducible (repeat (first | exact Ext.refl _ | assumption | (refine Ext.toSet ?_ (by omega)) | refine Ext.toAlloc ?_ | refine Ext.toDrew ?_ | refine Ext.toDrewN ?_ | refine Ext.trans ?_ (by assumption)))); (first | done | fail "no"))); obtain ⟨⟨a0, a1, a2, b0, b1, b2⟩, a3⟩ := P1.out; obtain ⟨t0, t1, t2⟩ := T1.out))
      all_goals
        have o1 := O1.out
        have o2 := O2.out
        have hg1 := HG1.out
        have hz1 := Ext.size hx1
        have hz0 := EW.out.size
        simp only [World.size_drew, World.size_alloc] at o1 o2 hz1
        have hL := Lib.hid (spn_of (base := if k + 1 = 0 then 0 else w.heap.size + 1) (EW.out.trans (by (with_reducible (repeat (first | exact Ext.refl _ | assumption | (refine Ext.toSet ?_ (by omega)) | refine Ext.toAlloc ?_ | refine Ext.toDrew ?_ | refine Ext.toDrewN ?_ | refine Ext.trans ?_ (by assumption)))); (first | done | fail "no"))) P2.out (HZ.out.ext (by (with_reducible (repeat (first | exact Ext.refl _ | assumption | (refine Ext.toSet ?_ (by omega)) | refine Ext.toAlloc ?_ | refine Ext.toDrew ?_ | refine Ext.toDrewN ?_ | refine Ext.trans ?_ (by assumption)))); (first | done | fail "no"))) HG1.out ((On.off o1 (by rw [if_neg (by omega)]; omega) (.inl (by omega)) (.inl (by omega))).ext hx2) (On.off o2 (by rw [if_neg (by omega)]; omega) (.inl (by omega)) (.inl (by omega))))
        clear o1 o2 hg1 hz1 hz0
        go_wp2
        go_roundw
        case rel => exact ⟨k + 1, by omega, by go_num, hL⟩
        case measure => simp [intOf]; omega
    · obtain rfl : k = N := by omega
      obtain ⟨A, c, B, e, hx, hp, hz, h1, oa, ob⟩ := hlr.out
      rw [if_neg (by omega)] at oa ob
      have OA := Lib.hid oa; have OB := Lib.hid ob; have EW := Lib.hid hx
      have hp0 := hp.lt
      obtain ⟨⟨a0, a1, a2, b0, b1, b2⟩, a3⟩ := hp
      obtain ⟨⟨r0, r1, r2, r3, r4, r5⟩, rz⟩ := hz
      have hpn := Nat.ne_of_lt h1; have hpn' := Nat.ne_of_gt h1
      clear hlr hx oa ob HN HW HS HD hlt
      go_wp2
      exact bodyPost_ret (v := ivd (slo D k) A c (shi D k) B e) (by simp [results, Tryz.results92, go_sem, r0, r1, r2, r3, r4, r5]) rfl (IvRes.end6 rfl OA.out.1 OB.out.1 EW.out (by omega) (by omega) (by omega))
end Go.Proofs.YtgnngldlgcdnfaaGreatDoor
