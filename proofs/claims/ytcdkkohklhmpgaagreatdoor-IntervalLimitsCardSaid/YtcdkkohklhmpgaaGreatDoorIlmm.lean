/- The law IntervalLimits: pairs of results (written by gilm.py). -/
import Derived.Test.YtcdkkohklhmpgaaGreatDoorIll
import Derived.Test.YtcdkkohklhmpgaaGreatDoorIvf
import Derived.Test.YtcdkkohklhmpgaaGreatDoorIvw
import Derived.Deep.RegionHeld3
import Derived.Deep.DeepCutAuto
namespace Go.Proofs.YtcdkkohklhmpgaaGreatDoor

/-! ### Ilma -/
section
open Go.RowKit
attribute [local go_sem ↓] Go.wp_at_zero Go.wp_at_succ

/-- An interval whose words can be read. -/
def RdI (w : World) (u v : DV) (A : Option Addr) (_ : Nat) (B : Option Addr) (_ : Nat) : Prop := Rd w A (len u.m) (dg u.m) ∧ Rd w B (len v.m) (dg v.m)
theorem RdI.ext {w w' : World} {u v : DV} {A B : Option Addr} {c e : Nat} (h : RdI w u v A c B e) (x : Ext w w') : RdI w' u v A c B e := ⟨h.1.ext x, h.2.ext x⟩
theorem same_rd {w : World} {u v : DV} {A B X Y : Option Addr} {c e k l : Nat} (h : RdI w u v A c B e) (h' : RdI w u v X k Y l) (lu : len u.m ≤ 1073741824) (lv : len v.m ≤ 1073741824) :
    Calls Tryz.prog 23 #[ivd u A c v B e, ivd u X k v Y l] w fun e' w' => e' = .returned (.bool true) ∧ Ext w w' := isame_true h.1 h.2 h'.1 h'.2 lu lv
set_option maxHeartbeats 400000 in
theorem lmN0 (w : World) : Calls Tryz.prog 22 #[.nilIface] w fun e w' => e = .returned (I 0) ∧ Ext w w' := by
  go_enter Tryz.func22, Tryz.ntmps22
  go_wp2
  go_ret
  exact ⟨rfl, Ext.refl _⟩
set_option maxHeartbeats 400000 in
theorem lmN (k : Int) (w : World) : Calls Tryz.prog 22 #[.iface 61 (I k)] w fun e w' => e = .returned (I k) ∧ Ext w w' := by
  have ta := run_assert_int (P := Tryz.prog) (xT := 30) (v := I k) (w := w) Tryz.underlying61
  go_enter Tryz.func22, Tryz.ntmps22
  go_wp2
  go_ret
  exact ⟨rfl, Ext.refl _⟩
/-- A result of two: an interval and its error. -/
abbrev LmR (f : FuncId) (args : Array Value) (u v : DV) (ev : Value) (w : World) : Prop := Calls Tryz.prog f args w fun e w' => ∃ A c B k, e = .returned (.tuple #[ivd u A c v B k, ev]) ∧ RdI w' u v A c B k ∧ Ext w w'
/-- The code's result and the reference's are the same. -/
abbrev LmB (f g : FuncId) (args : Array Value) (w : World) : Prop := ∃ (u v : DV) (ev : Value) (cd : Int), (∀ w', Ext w w' → LmR f args u v ev w') ∧ (∀ w', Ext w w' → LmR g args u v (I cd) w') ∧ (∀ w', Calls Tryz.prog 22 #[ev] w' fun e w'' => e = .returned (I cd) ∧ Ext w' w'') ∧ len u.m ≤ 1073741824 ∧ len v.m ≤ 1073741824
theorem lmE {f g : FuncId} {args : Array Value} {w : World} (k : Int) (hc : ∀ w', Ext w w' → Calls Tryz.prog f args w' (IvErr k w')) (hr : ∀ w', Ext w w' → Calls Tryz.prog g args w' (RvErr k w')) : LmB f g args w := by
  have e0 : len DV.zero.m = 0 := len_zero
  have er : ∀ w', RdI w' DV.zero DV.zero none 0 none 0 := fun w' => ⟨by rw [e0]; exact Rd.none_, by rw [e0]; exact Rd.none_⟩
  refine ⟨DV.zero, DV.zero, _, k, fun w' e => (hc w' e).mono ?_, fun w' e => (hr w' e).mono ?_, lmN k, by rw [e0]; decide, by rw [e0]; decide⟩
  · rintro _ w'' ⟨rfl, hx⟩
    exact ⟨none, 0, none, 0, by show _ = Ending.returned (.tuple #[iv DV.zero.neg none (len DV.zero.m) 0 DV.zero.den DV.zero.neg none (len DV.zero.m) 0 DV.zero.den, _]); rw [e0]; rfl, er _, hx⟩
  · rintro _ w'' ⟨rfl, hx⟩
    exact ⟨none, 0, none, 0, by show _ = Ending.returned (.tuple #[iv DV.zero.neg none (len DV.zero.m) 0 DV.zero.den DV.zero.neg none (len DV.zero.m) 0 DV.zero.den, _]); rw [e0]; rfl, er _, hx⟩
theorem lmO {f g : FuncId} {args : Array Value} {w : World} {u v : DV} (hc : ∀ w', Ext w w' → Calls Tryz.prog f args w' (IvOk u v w')) (hr : ∀ w', Ext w w' → Calls Tryz.prog g args w' (RvOk u v w')) (l1 : len u.m ≤ 1073741824) (l2 : len v.m ≤ 1073741824) : LmB f g args w := by
  refine ⟨u, v, _, 0, fun w' e => (hc w' e).mono ?_, fun w' e => (hr w' e).mono ?_, lmN0, l1, l2⟩
  · rintro _ w'' ⟨A1, f1, B1, g1, rfl, fa, fb, hx⟩
    exact ⟨A1, f1, B1, g1, rfl, ⟨fa.rd, fb.rd⟩, hx⟩
  · rintro _ w'' ⟨A1, f1, B1, g1, rfl, fa, fb, hx⟩
    exact ⟨A1, f1, B1, g1, rfl, ⟨fa.rd, fb.rd⟩, hx⟩
theorem lm_up {d : DV} (h : Bdd d) : len d.m ≤ 1073741824 := Nat.le_trans h.2 (by decide)

theorem lm_meet {w : World} {n1 n2 n3 n4 : Bool} {A B X Y A' B' X' Y' : Option Addr} {k1 c1 k2 c2 k3 c3 k4 c4 e1 e2 e3 e4 : Nat} {d1 d2 d3 d4 : Int} {a b x y : DV} (ha : Iw w n1 A k1 c1 d1 n2 B k2 c2 d2 a b A' e1 B' e2) (hb : Iw w n3 X k3 c3 d3 n4 Y k4 c4 d4 x y X' e3 Y' e4) (hT : Tabs w) :
    LmB 14 18 #[iv n1 A k1 c1 d1 n2 B k2 c2 d2, iv n3 X k3 c3 d3 n4 Y k4 c4 d4] w := by
  by_cases h : 0 < cmpD (maxD a x) (minD b y)
  · exact lmE 23 (fun w' e => meet_err (ha.ext e) (hb.ext e) (hT.ext e) h) (fun w' e => rimeet_err (ha.ext e) (hb.ext e) h)
  · have o1 := bd_max ha.wa hb.wa
    have o2 := bd_min ha.wb hb.wb
    have le : (maxD a x).q ≤ (minD b y).q := (cmp_le o1.1 o2.1).1 (by omega)
    refine lmO (fun w' e => ?_) (fun w' e => rimeet_ok (ha.ext e) (hb.ext e) h) (lm_up o1) (lm_up o2)
    have h0 := meet_ok (ha.ext e) (hb.ext e) (hT.ext e) h
    rw [lo2_id o1.1 o2.1 le, hi2_id o1.1 o2.1 le] at h0
    exact h0
theorem lm_widen {w : World} {n1 n2 n3 : Bool} {A B X A' B' Z' : Option Addr} {k1 c1 k2 c2 k3 c3 e1 e2 e5 : Nat} {d1 d2 d3 : Int} {a b z : DV} (ha : Iw w n1 A k1 c1 d1 n2 B k2 c2 d2 a b A' e1 B' e2) (hz : Dy w n3 X k3 c3 d3 z Z' e5) (ez : End z) (lz : len z.m ≤ 1048575) (hT : Tabs w) :
    LmB 15 19 #[iv n1 A k1 c1 d1 n2 B k2 c2 d2, dv n3 X k3 c3 d3] w := by
  by_cases h : signD z < 0
  · exact lmE 3 (fun w' e => iwiden_err (hz.ext e) h) (fun w' e => riwiden_err (hz.ext e) h)
  · exact lmO (fun w' e => iwiden_ok (ha.ext e) (hz.ext e) ez lz (hT.ext e) h) (fun w' e => riwiden_ok (ha.ext e) (hz.ext e) ez lz h) (Nat.le_trans (bd_sub (bd_end ha.wa) (bd_end ez)).1 (by decide)) (lm_up (bd_add ha.wb ez))
theorem lm_clip {w : World} {n1 n2 n3 n4 : Bool} {A B X Y A' B' Z' U' : Option Addr} {k1 c1 k2 c2 k3 c3 k4 c4 e1 e2 e5 e6 : Nat} {d1 d2 d3 d4 : Int} {a b z u : DV} (ha : Iw w n1 A k1 c1 d1 n2 B k2 c2 d2 a b A' e1 B' e2) (hz : Dy w n3 X k3 c3 d3 z Z' e5) (hu : Dy w n4 Y k4 c4 d4 u U' e6) (ez : End z) (eu : End u) (hT : Tabs w) :
    LmB 16 20 #[iv n1 A k1 c1 d1 n2 B k2 c2 d2, dv n3 X k3 c3 d3, dv n4 Y k4 c4 d4] w := by
  by_cases h : 0 < cmpD z u
  · exact lmE 3 (fun w' e => iclip_err (hz.ext e) (hu.ext e) ez eu h) (fun w' e => riclip_err (hz.ext e) (hu.ext e) ez eu h)
  · exact lmO (fun w' e => iclip_ok (ha.ext e) (hz.ext e) (hu.ext e) ez eu (hT.ext e) h) (fun w' e => riclip_ok (ha.ext e) (hz.ext e) (hu.ext e) ez eu h) (lm_up (bd_end (sz_min (P := End) (sz_max (P := End) ha.wa ez) eu))) (lm_up (bd_end (sz_min (P := End) (sz_max (P := End) ha.wb ez) eu)))
theorem lm_round {w : World} {n1 n2 : Bool} {A B A' B' : Option Addr} {k1 c1 k2 c2 e1 e2 : Nat} {d1 d2 : Int} {a b : DV} (ha : Iw w n1 A k1 c1 d1 n2 B k2 c2 d2 a b A' e1 B' e2) (j : Int) (hT : Tabs w) :
    LmB 17 21 #[iv n1 A k1 c1 d1 n2 B k2 c2 d2, I j] w := by
  by_cases h : j < 0 ∨ 65536 < j
  · exact lmE 3 (fun w' e => iround_err (ha.ext e) (hT.ext e) j h) (fun w' e => riround_err (ha.ext e) j h)
  · obtain ⟨n, rfl⟩ : ∃ n : Nat, j = n := ⟨j.toNat, by omega⟩
    have hn : n ≤ 65536 := by omega
    have := lim_floor a n; have := lim_ceil b n; have := ha.wa.2; have := ha.wb.2
    exact lmO (fun w' e => iround_ok (ha.ext e) (hT.ext e) n hn) (fun w' e => riround_ok (ha.ext e) n hn) (by omega) (by omega)
end

/-! ### Ilm -/
section
open Go.RowKit
attribute [local go_sem ↓] Go.wp_at_zero Go.wp_at_succ

theorem ivs2 (w : World) (g : Nat) (hg : w.heap.size = g) {n1 n2 n3 n4 : Bool} {A B X Y : Option Addr} {k1 c1 k2 c2 k3 c3 k4 c4 : Nat} {d1 d2 d3 d4 : Int} (t : TypeId) :
    Ivs (w.alloc (.cells #[.bool n1, .slice A k1 c1, I d1, .bool n2, .slice B k2 c2, I d2, .bool n3, .slice X k3 c3, I d3, .bool n4, .slice Y k4 c4, I d4] t)) g 2 (fun i => if i = 0 then n1 else n3) (fun i => if i = 0 then A else X) (fun i => if i = 0 then k1 else k3) (fun i => if i = 0 then c1 else c3) (fun i => if i = 0 then d1 else d3) (fun i => if i = 0 then n2 else n4) (fun i => if i = 0 then B else Y) (fun i => if i = 0 then k2 else k4) (fun i => if i = 0 then c2 else c4) (fun i => if i = 0 then d2 else d4) := by
  subst hg
  intro i hi
  have : i = 0 ∨ i = 1 := by omega
  rcases this with rfl | rfl
  · exact ⟨by go_simp, by go_simp, by go_simp, by go_simp, by go_simp, by go_simp⟩
  · exact ⟨by go_simp, by go_simp, by go_simp, by go_simp, by go_simp, by go_simp⟩

set_option maxRecDepth 100000 in
set_option maxHeartbeats 1000000 in
theorem limits_off {w : World} {n1 n2 n3 n4 : Bool} {A B X Y : Option Addr} {k1 c1 k2 c2 k3 c3 k4 c4 : Nat} {d1 d2 d3 d4 den : Int} (hT : Tabs w) (hP : TabP w) (h : ¬ (∀ i, i < 2 → shOk (if i = 0 then k1 else k3) (if i = 0 then d1 else d3) ∧ shOk (if i = 0 then k2 else k4) (if i = 0 then d2 else d4))) :
    Calls Tryz.prog 3 #[iv n1 A k1 c1 d1 n2 B k2 c2 d2, iv n3 X k3 c3 d3 n4 Y k4 c4 d4, I den] w fun e w' => e = .returned (.bool true) ∧ Ext w w' := by
  have HT := Lib.hid hT; have HP := Lib.hid hP; clear hT hP
  have HFW : Hid (false = true ↔ (∀ i, i < 2 → shOk (if i = 0 then k1 else k3) (if i = 0 then d1 else d3) ∧ shOk (if i = 0 then k2 else k4) (if i = 0 then d2 else d4))) := ⟨fun h => (by cases h), fun hh => absurd hh h⟩
  clear h
  go_enter Tryz.func3, Tryz.ntmps3
  go_wp2_with fail
  have HN := Lib.hid (ivs2 ((w.alloc (.cells #[.bool n1, .slice A k1 c1, I d1, .bool n2, .slice B k2 c2, I d2] 26)).alloc (.cells #[.bool n3, .slice X k3 c3, I d3, .bool n4, .slice Y k4 c4, I d4] 26)) (w.heap.size + 1 + 1) (by simp) (n1 := n1) (n2 := n2) (n3 := n3) (n4 := n4) (A := A) (B := B) (X := X) (Y := Y) (k1 := k1) (c1 := c1) (k2 := k2) (c2 := c2) (k3 := k3) (c3 := c3) (k4 := k4) (c4 := c4) (d1 := d1) (d2 := d2) (d3 := d3) (d4 := d4) 26)
  with_reducible refine (ifew_any HN.out (by simp) (by omega) HFW.out).mono ?_
  rintro e wf ⟨rfl, hx⟩
  have HEF : Hid (Ext w wf) := (((Ext.alloc _ _).trans (Ext.alloc _ _)).trans (Ext.alloc _ _)).trans hx
  clear hx HN HFW
  go_wp2_with fail
  refine (iawake_any _ (HT.out.ext HEF.out) (HP.out.ext HEF.out)).mono ?_
  rintro e w0 ⟨rfl, hx⟩
  have HEW := Lib.hid (HEF.out.trans hx)
  clear hx
  go_wp2_with fail
  go_ret
  exact ⟨rfl, HEW.out⟩

set_option maxRecDepth 100000 in
set_option maxHeartbeats 1000000 in
theorem limits_mid {w : World} {n1 n2 n3 n4 : Bool} {A B X Y : Option Addr} {k1 c1 k2 c2 k3 c3 k4 c4 : Nat} {d1 d2 d3 d4 den : Int} (hT : Tabs w) (hP : TabP w) (h : (∀ i, i < 2 → shOk (if i = 0 then k1 else k3) (if i = 0 then d1 else d3) ∧ shOk (if i = 0 then k2 else k4) (if i = 0 then d2 else d4))) (m1 : 300 < den) (m2 : den ≤ 65536) :
    Calls Tryz.prog 3 #[iv n1 A k1 c1 d1 n2 B k2 c2 d2, iv n3 X k3 c3 d3 n4 Y k4 c4 d4, I den] w fun e w' => e = .returned (.bool true) ∧ Ext w w' := by
  have HT := Lib.hid hT; have HP := Lib.hid hP; clear hT hP
  have HFW := Lib.hid h
  clear h
  have m1' : decide (300 < den) = true := decide_eq_true m1
  have m2' : decide (den ≤ 65536) = true := decide_eq_true m2
  go_enter Tryz.func3, Tryz.ntmps3
  go_wp2_with fail
  have HN := Lib.hid (ivs2 ((w.alloc (.cells #[.bool n1, .slice A k1 c1, I d1, .bool n2, .slice B k2 c2, I d2] 26)).alloc (.cells #[.bool n3, .slice X k3 c3, I d3, .bool n4, .slice Y k4 c4, I d4] 26)) (w.heap.size + 1 + 1) (by simp) (n1 := n1) (n2 := n2) (n3 := n3) (n4 := n4) (A := A) (B := B) (X := X) (Y := Y) (k1 := k1) (c1 := c1) (k2 := k2) (c2 := c2) (k3 := k3) (c3 := c3) (k4 := k4) (c4 := c4) (d1 := d1) (d2 := d2) (d3 := d3) (d4 := d4) 26)
  with_reducible refine (ifew_any HN.out (by simp) (by omega) (b := true) ⟨fun _ => HFW.out, fun _ => rfl⟩).mono ?_
  rintro e wf ⟨rfl, hx⟩
  have HEF : Hid (Ext w wf) := (((Ext.alloc _ _).trans (Ext.alloc _ _)).trans (Ext.alloc _ _)).trans hx
  clear hx HN HFW
  go_wp2_with fail
  refine (iawake_any _ (HT.out.ext HEF.out) (HP.out.ext HEF.out)).mono ?_
  rintro e w0 ⟨rfl, hx⟩
  have HEW := Lib.hid (HEF.out.trans hx)
  clear hx
  go_wp2_with fail
  go_ret
  exact ⟨rfl, HEW.out⟩

set_option maxRecDepth 100000 in
set_option maxHeartbeats 40000000 in
theorem limits_true1 {w : World} {n1 n2 n3 n4 : Bool} {A B X Y A' B' X' Y' Z' U' : Option Addr} {k1 c1 k2 c2 k3 c3 k4 c4 e1 e2 e3 e4 e5 e6 : Nat} {d1 d2 d3 d4 den : Int} {a b x y z u : DV} (ha : Iw w n1 A k1 c1 d1 n2 B k2 c2 d2 a b A' e1 B' e2) (hb : Iw w n3 X k3 c3 d3 n4 Y k4 c4 d4 x y X' e3 Y' e4) (hz : Dy w n3 X k3 c3 d3 z Z' e5) (hu : Dy w n4 Y k4 c4 d4 u U' e6) (ez : End z) (eu : End u) (lz : len z.m ≤ 1048575) (hT : Tabs w) (hP : TabP w) (h : (∀ i, i < 2 → shOk (if i = 0 then k1 else k3) (if i = 0 then d1 else d3) ∧ shOk (if i = 0 then k2 else k4) (if i = 0 then d2 else d4))) (md1 : decide (300 < den) = false) :
    Calls Tryz.prog 3 #[iv n1 A k1 c1 d1 n2 B k2 c2 d2, iv n3 X k3 c3 d3 n4 Y k4 c4 d4, I den] w fun e w' => e = .returned (.bool true) ∧ Ext w w' := by
  have HT := Lib.hid hT; have HP := Lib.hid hP
  have HFW := Lib.hid h
  obtain ⟨M1, M2, em, km, a1, a2, a3, a4, a5⟩ := lm_meet ha hb hT
  obtain ⟨N1, N2, ew, kw, b1, b2, b3, b4, b5⟩ := lm_widen ha hz ez lz hT
  obtain ⟨C1, C2, ec, kc, c1', c2', c3', c4', c5'⟩ := lm_clip ha hz hu ez eu hT
  obtain ⟨R1, R2, er, kr, r1, r2, r3, r4, r5⟩ := lm_round ha den hT
  have CC1 := Lib.hid a1; have CC5 := Lib.hid a2; have NE1 := Lib.hid a3; have LE1 := Lib.hid (And.intro a4 a5)
  have CC2 := Lib.hid b1; have CC6 := Lib.hid b2; have NE2 := Lib.hid b3; have LE2 := Lib.hid (And.intro b4 b5)
  have CC3 := Lib.hid c1'; have CC7 := Lib.hid c2'; have NE3 := Lib.hid c3'; have LE3 := Lib.hid (And.intro c4' c5')
  have CC4 := Lib.hid r1; have CC8 := Lib.hid r2; have NE4 := Lib.hid r3; have LE4 := Lib.hid (And.intro r4 r5)
  clear a1 a2 a3 a4 a5 b1 b2 b3 b4 b5 c1' c2' c3' c4' c5' r1 r2 r3 r4 r5 ha hb hz hu ez eu lz hT hP h
  have BX := Lib.hid ((B6.new w (.bool n1) (.slice A k1 c1) (I d1) (.bool n2) (.slice B k2 c2) (I d2) 26).ext (Ext.alloc _ (.cells #[.bool n3, .slice X k3 c3, I d3, .bool n4, .slice Y k4 c4, I d4] 26)))
  have BY : Hid (B6 ((w.alloc (.cells #[.bool n1, .slice A k1 c1, I d1, .bool n2, .slice B k2 c2, I d2] 26)).alloc (.cells #[.bool n3, .slice X k3 c3, I d3, .bool n4, .slice Y k4 c4, I d4] 26)) (w.heap.size + 1) (.bool n3) (.slice X k3 c3) (I d3) (.bool n4) (.slice Y k4 c4) (I d4)) := by
    have s := B6.new (w.alloc (.cells #[.bool n1, .slice A k1 c1, I d1, .bool n2, .slice B k2 c2, I d2] 26)) (.bool n3) (.slice X k3 c3) (I d3) (.bool n4) (.slice Y k4 c4) (I d4) 26
    rw [show (w.alloc (.cells #[.bool n1, .slice A k1 c1, I d1, .bool n2, .slice B k2 c2, I d2] 26)).heap.size = w.heap.size + 1 by simp] at s
    exact s
  go_enter Tryz.func3, Tryz.ntmps3
  go_wp2_with fail
  have HN := Lib.hid (ivs2 ((w.alloc (.cells #[.bool n1, .slice A k1 c1, I d1, .bool n2, .slice B k2 c2, I d2] 26)).alloc (.cells #[.bool n3, .slice X k3 c3, I d3, .bool n4, .slice Y k4 c4, I d4] 26)) (w.heap.size + 1 + 1) (by simp) (n1 := n1) (n2 := n2) (n3 := n3) (n4 := n4) (A := A) (B := B) (X := X) (Y := Y) (k1 := k1) (c1 := c1) (k2 := k2) (c2 := c2) (k3 := k3) (c3 := c3) (k4 := k4) (c4 := c4) (d1 := d1) (d2 := d2) (d3 := d3) (d4 := d4) 26)
  with_reducible refine (ifew_any HN.out (by simp) (by omega) (b := true) ⟨fun _ => HFW.out, fun _ => rfl⟩).mono ?_
  rintro e wf ⟨rfl, hx⟩
  have X0 := Lib.hid ((Ext.alloc w (.cells #[.bool n1, .slice A k1 c1, I d1, .bool n2, .slice B k2 c2, I d2] 26)).trans (Ext.alloc _ (.cells #[.bool n3, .slice X k3 c3, I d3, .bool n4, .slice Y k4 c4, I d4] 26)))
  have X1 := Lib.hid ((Ext.alloc ((w.alloc (.cells #[.bool n1, .slice A k1 c1, I d1, .bool n2, .slice B k2 c2, I d2] 26)).alloc (.cells #[.bool n3, .slice X k3 c3, I d3, .bool n4, .slice Y k4 c4, I d4] 26)) _).trans hx)
  clear hx HN HFW
  generalize (w.alloc (.cells #[.bool n1, .slice A k1 c1, I d1, .bool n2, .slice B k2 c2, I d2] 26)).alloc (.cells #[.bool n3, .slice X k3 c3, I d3, .bool n4, .slice Y k4 c4, I d4] 26) = W0 at *

  go_upto_region 3 with (first
    | (go_at_call 13; (with_reducible refine (iawake_any _ (HT.out.ext (X0.out.trans X1.out)) (HP.out.ext (X0.out.trans X1.out))).mono ?_); rintro e w0 ⟨rfl, hx⟩; have HE := Lib.hid (X1.out.trans hx); clear hx))
  have HEW0 := Lib.hid (X0.out.trans HE.out)
  have BX1 := Lib.hid (BX.out.ext HE.out); have BY1 := Lib.hid (BY.out.ext HE.out)
  clear X1 HE BX BY HT HP X0
  obtain ⟨⟨a0, a1, a2, a3, a4, a5⟩, _⟩ := BX1.out
  obtain ⟨⟨b0, b1, b2, b3, b4, b5⟩, _⟩ := BY1.out
  go_upto_region 11 with (first
    | (go_at_call 21; (with_reducible refine (CC8.out _ (HEW0.out.trans (Y7.out.trans (Ext.alloc _ _)))).mono ?_); rintro e v8 ⟨P8, f8, Q8, g8, rfl, hr, hx⟩; have K8 := Lib.hid hr; have T8 := Lib.hid hx; have Y8 := Lib.hid (Y7.out.trans ((Ext.alloc _ _).trans hx)); clear hx hr; clear a0 a1 a2 a3 a4 a5 b0 b1 b2 b3 b4 b5)
    | (go_at_call 20; (with_reducible refine (CC7.out _ (HEW0.out.trans (Y6.out.trans (Ext.alloc _ _)))).mono ?_); rintro e v7 ⟨P7, f7, Q7, g7, rfl, hr, hx⟩; have K7 := Lib.hid hr; have T7 := Lib.hid hx; have Y7 := Lib.hid (Y6.out.trans ((Ext.alloc _ _).trans hx)); clear hx hr; clear a0 a1 a2 a3 a4 a5 b0 b1 b2 b3 b4 b5; obtain ⟨⟨a0, a1, a2, a3, a4, a5⟩, _⟩ := BX1.out.ext (Y7.out.trans (Ext.alloc v7 (.cells #[.bool C1.neg, .slice P7 (len C1.m) f7, I C1.den, .bool C2.neg, .slice Q7 (len C2.m) g7, I C2.den] 26))); obtain ⟨⟨b0, b1, b2, b3, b4, b5⟩, _⟩ := BY1.out.ext (Y7.out.trans (Ext.alloc v7 (.cells #[.bool C1.neg, .slice P7 (len C1.m) f7, I C1.den, .bool C2.neg, .slice Q7 (len C2.m) g7, I C2.den] 26))))
    | (go_at_call 19; (with_reducible refine (CC6.out _ (HEW0.out.trans (Y5.out.trans (Ext.alloc _ _)))).mono ?_); rintro e v6 ⟨P6, f6, Q6, g6, rfl, hr, hx⟩; have K6 := Lib.hid hr; have T6 := Lib.hid hx; have Y6 := Lib.hid (Y5.out.trans ((Ext.alloc _ _).trans hx)); clear hx hr; clear a0 a1 a2 a3 a4 a5 b0 b1 b2 b3 b4 b5; obtain ⟨⟨a0, a1, a2, a3, a4, a5⟩, _⟩ := BX1.out.ext (Y6.out.trans (Ext.alloc v6 (.cells #[.bool N1.neg, .slice P6 (len N1.m) f6, I N1.den, .bool N2.neg, .slice Q6 (len N2.m) g6, I N2.den] 26))); obtain ⟨⟨b0, b1, b2, b3, b4, b5⟩, _⟩ := BY1.out.ext (Y6.out.trans (Ext.alloc v6 (.cells #[.bool N1.neg, .slice P6 (len N1.m) f6, I N1.den, .bool N2.neg, .slice Q6 (len N2.m) g6, I N2.den] 26))))
    | (go_at_call 18; (with_reducible refine (CC5.out _ (HEW0.out.trans (Y4.out.trans (Ext.alloc _ _)))).mono ?_); rintro e v5 ⟨P5, f5, Q5, g5, rfl, hr, hx⟩; have K5 := Lib.hid hr; have T5 := Lib.hid hx; have Y5 := Lib.hid (Y4.out.trans ((Ext.alloc _ _).trans hx)); clear hx hr; clear a0 a1 a2 a3 a4 a5 b0 b1 b2 b3 b4 b5; obtain ⟨⟨a0, a1, a2, a3, a4, a5⟩, _⟩ := BX1.out.ext (Y5.out.trans (Ext.alloc v5 (.cells #[.bool M1.neg, .slice P5 (len M1.m) f5, I M1.den, .bool M2.neg, .slice Q5 (len M2.m) g5, I M2.den] 26))); obtain ⟨⟨b0, b1, b2, b3, b4, b5⟩, _⟩ := BY1.out.ext (Y5.out.trans (Ext.alloc v5 (.cells #[.bool M1.neg, .slice P5 (len M1.m) f5, I M1.den, .bool M2.neg, .slice Q5 (len M2.m) g5, I M2.den] 26))))
    | (go_at_call 17; (with_reducible refine (CC4.out _ (HEW0.out.trans (Y3.out.trans (Ext.alloc _ _)))).mono ?_); rintro e v4 ⟨P4, f4, Q4, g4, rfl, hr, hx⟩; have K4 := Lib.hid hr; have T4 := Lib.hid hx; have Y4 := Lib.hid (Y3.out.trans ((Ext.alloc _ _).trans hx)); clear hx hr; clear a0 a1 a2 a3 a4 a5 b0 b1 b2 b3 b4 b5; obtain ⟨⟨a0, a1, a2, a3, a4, a5⟩, _⟩ := BX1.out.ext (Y4.out.trans (Ext.alloc v4 (.cells #[.bool R1.neg, .slice P4 (len R1.m) f4, I R1.den, .bool R2.neg, .slice Q4 (len R2.m) g4, I R2.den] 26))); obtain ⟨⟨b0, b1, b2, b3, b4, b5⟩, _⟩ := BY1.out.ext (Y4.out.trans (Ext.alloc v4 (.cells #[.bool R1.neg, .slice P4 (len R1.m) f4, I R1.den, .bool R2.neg, .slice Q4 (len R2.m) g4, I R2.den] 26))))
    | (go_at_call 16; (with_reducible refine (CC3.out _ (HEW0.out.trans (Y2.out.trans (Ext.alloc _ _)))).mono ?_); rintro e v3 ⟨P3, f3, Q3, g3, rfl, hr, hx⟩; have K3 := Lib.hid hr; have T3 := Lib.hid hx; have Y3 := Lib.hid (Y2.out.trans ((Ext.alloc _ _).trans hx)); clear hx hr; clear a0 a1 a2 a3 a4 a5 b0 b1 b2 b3 b4 b5; obtain ⟨⟨a0, a1, a2, a3, a4, a5⟩, _⟩ := BX1.out.ext (Y3.out.trans (Ext.alloc v3 (.cells #[.bool C1.neg, .slice P3 (len C1.m) f3, I C1.den, .bool C2.neg, .slice Q3 (len C2.m) g3, I C2.den] 26))); obtain ⟨⟨b0, b1, b2, b3, b4, b5⟩, _⟩ := BY1.out.ext (Y3.out.trans (Ext.alloc v3 (.cells #[.bool C1.neg, .slice P3 (len C1.m) f3, I C1.den, .bool C2.neg, .slice Q3 (len C2.m) g3, I C2.den] 26))))
    | (go_at_call 15; (with_reducible refine (CC2.out _ (HEW0.out.trans (Y1.out.trans (Ext.alloc _ _)))).mono ?_); rintro e v2 ⟨P2, f2, Q2, g2, rfl, hr, hx⟩; have K2 := Lib.hid hr; have T2 := Lib.hid hx; have Y2 := Lib.hid (Y1.out.trans ((Ext.alloc _ _).trans hx)); clear hx hr; clear a0 a1 a2 a3 a4 a5 b0 b1 b2 b3 b4 b5; obtain ⟨⟨a0, a1, a2, a3, a4, a5⟩, _⟩ := BX1.out.ext (Y2.out.trans (Ext.alloc v2 (.cells #[.bool N1.neg, .slice P2 (len N1.m) f2, I N1.den, .bool N2.neg, .slice Q2 (len N2.m) g2, I N2.den] 26))); obtain ⟨⟨b0, b1, b2, b3, b4, b5⟩, _⟩ := BY1.out.ext (Y2.out.trans (Ext.alloc v2 (.cells #[.bool N1.neg, .slice P2 (len N1.m) f2, I N1.den, .bool N2.neg, .slice Q2 (len N2.m) g2, I N2.den] 26))))
    | (go_at_call 14; (with_reducible refine (CC1.out _ HEW0.out).mono ?_); rintro e v1 ⟨P1, f1, Q1, g1, rfl, hr, hx⟩; have K1 := Lib.hid hr; have T1 := Lib.hid hx; have Y1 := Lib.hid hx; clear hx hr; clear a0 a1 a2 a3 a4 a5 b0 b1 b2 b3 b4 b5; obtain ⟨⟨a0, a1, a2, a3, a4, a5⟩, _⟩ := BX1.out.ext (Y1.out.trans (Ext.alloc v1 (.cells #[.bool M1.neg, .slice P1 (len M1.m) f1, I M1.den, .bool M2.neg, .slice Q1 (len M2.m) g1, I M2.den] 26))); obtain ⟨⟨b0, b1, b2, b3, b4, b5⟩, _⟩ := BY1.out.ext (Y1.out.trans (Ext.alloc v1 (.cells #[.bool M1.neg, .slice P1 (len M1.m) f1, I M1.den, .bool M2.neg, .slice Q1 (len M2.m) g1, I M2.den] 26)))))
  have Z8 := Lib.hid (Ext.refl (v8.alloc (.cells #[.bool R1.neg, .slice P8 (len R1.m) f8, I R1.den, .bool R2.neg, .slice Q8 (len R2.m) g8, I R2.den] 26)))
  have Z7 := Lib.hid (T8.out.trans ((Ext.alloc v8 (.cells #[.bool R1.neg, .slice P8 (len R1.m) f8, I R1.den, .bool R2.neg, .slice Q8 (len R2.m) g8, I R2.den] 26)).trans Z8.out))
  have Z6 := Lib.hid (T7.out.trans ((Ext.alloc v7 (.cells #[.bool C1.neg, .slice P7 (len C1.m) f7, I C1.den, .bool C2.neg, .slice Q7 (len C2.m) g7, I C2.den] 26)).trans Z7.out))
  have Z5 := Lib.hid (T6.out.trans ((Ext.alloc v6 (.cells #[.bool N1.neg, .slice P6 (len N1.m) f6, I N1.den, .bool N2.neg, .slice Q6 (len N2.m) g6, I N2.den] 26)).trans Z6.out))
  have Z4 := Lib.hid (T5.out.trans ((Ext.alloc v5 (.cells #[.bool M1.neg, .slice P5 (len M1.m) f5, I M1.den, .bool M2.neg, .slice Q5 (len M2.m) g5, I M2.den] 26)).trans Z5.out))
  have Z3 := Lib.hid (T4.out.trans ((Ext.alloc v4 (.cells #[.bool R1.neg, .slice P4 (len R1.m) f4, I R1.den, .bool R2.neg, .slice Q4 (len R2.m) g4, I R2.den] 26)).trans Z4.out))
  have Z2 := Lib.hid (T3.out.trans ((Ext.alloc v3 (.cells #[.bool C1.neg, .slice P3 (len C1.m) f3, I C1.den, .bool C2.neg, .slice Q3 (len C2.m) g3, I C2.den] 26)).trans Z3.out))
  have Z1 := Lib.hid (T2.out.trans ((Ext.alloc v2 (.cells #[.bool N1.neg, .slice P2 (len N1.m) f2, I N1.den, .bool N2.neg, .slice Q2 (len N2.m) g2, I N2.den] 26)).trans Z2.out))
  have S1 := Lib.hid ((B6.new v1 _ _ _ _ _ _ _).ext Z1.out)
  have RR1 := Lib.hid (K1.out.ext ((Ext.alloc v1 (.cells #[.bool M1.neg, .slice P1 (len M1.m) f1, I M1.den, .bool M2.neg, .slice Q1 (len M2.m) g1, I M2.den] 26)).trans Z1.out))
  have S2 := Lib.hid ((B6.new v2 _ _ _ _ _ _ _).ext Z2.out)
  have RR2 := Lib.hid (K2.out.ext ((Ext.alloc v2 (.cells #[.bool N1.neg, .slice P2 (len N1.m) f2, I N1.den, .bool N2.neg, .slice Q2 (len N2.m) g2, I N2.den] 26)).trans Z2.out))
  have S3 := Lib.hid ((B6.new v3 _ _ _ _ _ _ _).ext Z3.out)
  have RR3 := Lib.hid (K3.out.ext ((Ext.alloc v3 (.cells #[.bool C1.neg, .slice P3 (len C1.m) f3, I C1.den, .bool C2.neg, .slice Q3 (len C2.m) g3, I C2.den] 26)).trans Z3.out))
  have S4 := Lib.hid ((B6.new v4 _ _ _ _ _ _ _).ext Z4.out)
  have RR4 := Lib.hid (K4.out.ext ((Ext.alloc v4 (.cells #[.bool R1.neg, .slice P4 (len R1.m) f4, I R1.den, .bool R2.neg, .slice Q4 (len R2.m) g4, I R2.den] 26)).trans Z4.out))
  have S5 := Lib.hid ((B6.new v5 _ _ _ _ _ _ _).ext Z5.out)
  have RR5 := Lib.hid (K5.out.ext ((Ext.alloc v5 (.cells #[.bool M1.neg, .slice P5 (len M1.m) f5, I M1.den, .bool M2.neg, .slice Q5 (len M2.m) g5, I M2.den] 26)).trans Z5.out))
  have S6 := Lib.hid ((B6.new v6 _ _ _ _ _ _ _).ext Z6.out)
  have RR6 := Lib.hid (K6.out.ext ((Ext.alloc v6 (.cells #[.bool N1.neg, .slice P6 (len N1.m) f6, I N1.den, .bool N2.neg, .slice Q6 (len N2.m) g6, I N2.den] 26)).trans Z6.out))
  have S7 := Lib.hid ((B6.new v7 _ _ _ _ _ _ _).ext Z7.out)
  have RR7 := Lib.hid (K7.out.ext ((Ext.alloc v7 (.cells #[.bool C1.neg, .slice P7 (len C1.m) f7, I C1.den, .bool C2.neg, .slice Q7 (len C2.m) g7, I C2.den] 26)).trans Z7.out))
  have S8 := Lib.hid (B6.new v8 (.bool R1.neg) (.slice P8 (len R1.m) f8) (I R1.den) (.bool R2.neg) (.slice Q8 (len R2.m) g8) (I R2.den) 26)
  have RR8 := Lib.hid (K8.out.ext ((Ext.alloc v8 (.cells #[.bool R1.neg, .slice P8 (len R1.m) f8, I R1.den, .bool R2.neg, .slice Q8 (len R2.m) g8, I R2.den] 26)).trans Z8.out))
  have ZA := Lib.hid (HEW0.out.trans (Y8.out.trans (Ext.alloc v8 (.cells #[.bool R1.neg, .slice P8 (len R1.m) f8, I R1.den, .bool R2.neg, .slice Q8 (len R2.m) g8, I R2.den] 26))))
  clear K1 T1 Y1 Z1 CC1 K2 T2 Y2 Z2 CC2 K3 T3 Y3 Z3 CC3 K4 T4 Y4 Z4 CC4 K5 T5 Y5 Z5 CC5 K6 T6 Y6 Z6 CC6 K7 T7 Y7 Z7 CC7 K8 T8 Y8 Z8 CC8 BX1 BY1
  generalize v8.alloc (.cells #[.bool R1.neg, .slice P8 (len R1.m) f8, I R1.den, .bool R2.neg, .slice Q8 (len R2.m) g8, I R2.den] 26) = W8 at *
  generalize v1.heap.size = s1 at *
  generalize v2.heap.size = s2 at *
  generalize v3.heap.size = s3 at *
  generalize v4.heap.size = s4 at *
  generalize v5.heap.size = s5 at *
  generalize v6.heap.size = s6 at *
  generalize v7.heap.size = s7 at *
  generalize v8.heap.size = s8 at *
  have SM1 := Lib.hid (fun (w' : World) (e : Ext W8 w') => same_rd (RR1.out.ext e) (RR5.out.ext e) LE1.out.1 LE1.out.2 (c := f1) (e := g1) (k := f5) (l := g5))
  have SM2 := Lib.hid (fun (w' : World) (e : Ext W8 w') => same_rd (RR2.out.ext e) (RR6.out.ext e) LE2.out.1 LE2.out.2 (c := f2) (e := g2) (k := f6) (l := g6))
  have SM3 := Lib.hid (fun (w' : World) (e : Ext W8 w') => same_rd (RR3.out.ext e) (RR7.out.ext e) LE3.out.1 LE3.out.2 (c := f3) (e := g3) (k := f7) (l := g7))
  have SM4 := Lib.hid (fun (w' : World) (e : Ext W8 w') => same_rd (RR4.out.ext e) (RR8.out.ext e) LE4.out.1 LE4.out.2 (c := f4) (e := g4) (k := f8) (l := g8))
  clear RR1 RR2 RR3 RR4 RR5 RR6 RR7 RR8 LE1 LE2 LE3 LE4
  have U0 := Lib.hid (Ext.refl W8)
  go_wp2_with (first
    | (have hg := U7; clear hg; go_at_call 23; (with_reducible refine (SM4.out _ U7.out).mono ?_); rintro e q8 ⟨rfl, hx⟩; have U8 := Lib.hid (U7.out.trans hx); clear hx j0 j1 j2 j3 j4 j5 l0 l1 l2 l3 l4 l5)
    | (have hg := U6; clear hg; go_at_call 22; (with_reducible refine (NE4.out _).mono ?_); rintro e q7 ⟨rfl, hx⟩; have U7 := Lib.hid (U6.out.trans hx); clear hx; obtain ⟨⟨j0, j1, j2, j3, j4, j5⟩, _⟩ := S4.out.ext U7.out; obtain ⟨⟨l0, l1, l2, l3, l4, l5⟩, _⟩ := S8.out.ext U7.out)
    | (have hg := U5; clear hg; go_at_call 23; (with_reducible refine (SM3.out _ U5.out).mono ?_); rintro e q6 ⟨rfl, hx⟩; have U6 := Lib.hid (U5.out.trans hx); clear hx j0 j1 j2 j3 j4 j5 l0 l1 l2 l3 l4 l5)
    | (have hg := U4; clear hg; go_at_call 22; (with_reducible refine (NE3.out _).mono ?_); rintro e q5 ⟨rfl, hx⟩; have U5 := Lib.hid (U4.out.trans hx); clear hx; obtain ⟨⟨j0, j1, j2, j3, j4, j5⟩, _⟩ := S3.out.ext U5.out; obtain ⟨⟨l0, l1, l2, l3, l4, l5⟩, _⟩ := S7.out.ext U5.out)
    | (have hg := U3; clear hg; go_at_call 23; (with_reducible refine (SM2.out _ U3.out).mono ?_); rintro e q4 ⟨rfl, hx⟩; have U4 := Lib.hid (U3.out.trans hx); clear hx j0 j1 j2 j3 j4 j5 l0 l1 l2 l3 l4 l5)
    | (have hg := U2; clear hg; go_at_call 22; (with_reducible refine (NE2.out _).mono ?_); rintro e q3 ⟨rfl, hx⟩; have U3 := Lib.hid (U2.out.trans hx); clear hx; obtain ⟨⟨j0, j1, j2, j3, j4, j5⟩, _⟩ := S2.out.ext U3.out; obtain ⟨⟨l0, l1, l2, l3, l4, l5⟩, _⟩ := S6.out.ext U3.out)
    | (have hg := U1; clear hg; go_at_call 23; (with_reducible refine (SM1.out _ U1.out).mono ?_); rintro e q2 ⟨rfl, hx⟩; have U2 := Lib.hid (U1.out.trans hx); clear hx j0 j1 j2 j3 j4 j5 l0 l1 l2 l3 l4 l5)
    | (have hg := U0; clear hg; go_at_call 22; (with_reducible refine (NE1.out _).mono ?_); rintro e q1 ⟨rfl, hx⟩; have U1 := Lib.hid (U0.out.trans hx); clear hx; obtain ⟨⟨j0, j1, j2, j3, j4, j5⟩, _⟩ := S1.out.ext U1.out; obtain ⟨⟨l0, l1, l2, l3, l4, l5⟩, _⟩ := S5.out.ext U1.out))
  go_ret
  exact ⟨by simp, ZA.out.trans U8.out⟩

set_option maxRecDepth 100000 in
set_option maxHeartbeats 40000000 in
theorem limits_true2 {w : World} {n1 n2 n3 n4 : Bool} {A B X Y A' B' X' Y' Z' U' : Option Addr} {k1 c1 k2 c2 k3 c3 k4 c4 e1 e2 e3 e4 e5 e6 : Nat} {d1 d2 d3 d4 den : Int} {a b x y z u : DV} (ha : Iw w n1 A k1 c1 d1 n2 B k2 c2 d2 a b A' e1 B' e2) (hb : Iw w n3 X k3 c3 d3 n4 Y k4 c4 d4 x y X' e3 Y' e4) (hz : Dy w n3 X k3 c3 d3 z Z' e5) (hu : Dy w n4 Y k4 c4 d4 u U' e6) (ez : End z) (eu : End u) (lz : len z.m ≤ 1048575) (hT : Tabs w) (hP : TabP w) (h : (∀ i, i < 2 → shOk (if i = 0 then k1 else k3) (if i = 0 then d1 else d3) ∧ shOk (if i = 0 then k2 else k4) (if i = 0 then d2 else d4))) (md1 : decide (300 < den) = true) (md2 : decide (den ≤ 65536) = false) :
    Calls Tryz.prog 3 #[iv n1 A k1 c1 d1 n2 B k2 c2 d2, iv n3 X k3 c3 d3 n4 Y k4 c4 d4, I den] w fun e w' => e = .returned (.bool true) ∧ Ext w w' := by
  have HT := Lib.hid hT; have HP := Lib.hid hP
  have HFW := Lib.hid h
  obtain ⟨M1, M2, em, km, a1, a2, a3, a4, a5⟩ := lm_meet ha hb hT
  obtain ⟨N1, N2, ew, kw, b1, b2, b3, b4, b5⟩ := lm_widen ha hz ez lz hT
  obtain ⟨C1, C2, ec, kc, c1', c2', c3', c4', c5'⟩ := lm_clip ha hz hu ez eu hT
  obtain ⟨R1, R2, er, kr, r1, r2, r3, r4, r5⟩ := lm_round ha den hT
  have CC1 := Lib.hid a1; have CC5 := Lib.hid a2; have NE1 := Lib.hid a3; have LE1 := Lib.hid (And.intro a4 a5)
  have CC2 := Lib.hid b1; have CC6 := Lib.hid b2; have NE2 := Lib.hid b3; have LE2 := Lib.hid (And.intro b4 b5)
  have CC3 := Lib.hid c1'; have CC7 := Lib.hid c2'; have NE3 := Lib.hid c3'; have LE3 := Lib.hid (And.intro c4' c5')
  have CC4 := Lib.hid r1; have CC8 := Lib.hid r2; have NE4 := Lib.hid r3; have LE4 := Lib.hid (And.intro r4 r5)
  clear a1 a2 a3 a4 a5 b1 b2 b3 b4 b5 c1' c2' c3' c4' c5' r1 r2 r3 r4 r5 ha hb hz hu ez eu lz hT hP h
  have BX := Lib.hid ((B6.new w (.bool n1) (.slice A k1 c1) (I d1) (.bool n2) (.slice B k2 c2) (I d2) 26).ext (Ext.alloc _ (.cells #[.bool n3, .slice X k3 c3, I d3, .bool n4, .slice Y k4 c4, I d4] 26)))
  have BY : Hid (B6 ((w.alloc (.cells #[.bool n1, .slice A k1 c1, I d1, .bool n2, .slice B k2 c2, I d2] 26)).alloc (.cells #[.bool n3, .slice X k3 c3, I d3, .bool n4, .slice Y k4 c4, I d4] 26)) (w.heap.size + 1) (.bool n3) (.slice X k3 c3) (I d3) (.bool n4) (.slice Y k4 c4) (I d4)) := by
    have s := B6.new (w.alloc (.cells #[.bool n1, .slice A k1 c1, I d1, .bool n2, .slice B k2 c2, I d2] 26)) (.bool n3) (.slice X k3 c3) (I d3) (.bool n4) (.slice Y k4 c4) (I d4) 26
    rw [show (w.alloc (.cells #[.bool n1, .slice A k1 c1, I d1, .bool n2, .slice B k2 c2, I d2] 26)).heap.size = w.heap.size + 1 by simp] at s
    exact s
  go_enter Tryz.func3, Tryz.ntmps3
  go_wp2_with fail
  have HN := Lib.hid (ivs2 ((w.alloc (.cells #[.bool n1, .slice A k1 c1, I d1, .bool n2, .slice B k2 c2, I d2] 26)).alloc (.cells #[.bool n3, .slice X k3 c3, I d3, .bool n4, .slice Y k4 c4, I d4] 26)) (w.heap.size + 1 + 1) (by simp) (n1 := n1) (n2 := n2) (n3 := n3) (n4 := n4) (A := A) (B := B) (X := X) (Y := Y) (k1 := k1) (c1 := c1) (k2 := k2) (c2 := c2) (k3 := k3) (c3 := c3) (k4 := k4) (c4 := c4) (d1 := d1) (d2 := d2) (d3 := d3) (d4 := d4) 26)
  with_reducible refine (ifew_any HN.out (by simp) (by omega) (b := true) ⟨fun _ => HFW.out, fun _ => rfl⟩).mono ?_
  rintro e wf ⟨rfl, hx⟩
  have X0 := Lib.hid ((Ext.alloc w (.cells #[.bool n1, .slice A k1 c1, I d1, .bool n2, .slice B k2 c2, I d2] 26)).trans (Ext.alloc _ (.cells #[.bool n3, .slice X k3 c3, I d3, .bool n4, .slice Y k4 c4, I d4] 26)))
  have X1 := Lib.hid ((Ext.alloc ((w.alloc (.cells #[.bool n1, .slice A k1 c1, I d1, .bool n2, .slice B k2 c2, I d2] 26)).alloc (.cells #[.bool n3, .slice X k3 c3, I d3, .bool n4, .slice Y k4 c4, I d4] 26)) _).trans hx)
  clear hx HN HFW
  generalize (w.alloc (.cells #[.bool n1, .slice A k1 c1, I d1, .bool n2, .slice B k2 c2, I d2] 26)).alloc (.cells #[.bool n3, .slice X k3 c3, I d3, .bool n4, .slice Y k4 c4, I d4] 26) = W0 at *

  go_upto_region 3 with (first
    | (go_at_call 13; (with_reducible refine (iawake_any _ (HT.out.ext (X0.out.trans X1.out)) (HP.out.ext (X0.out.trans X1.out))).mono ?_); rintro e w0 ⟨rfl, hx⟩; have HE := Lib.hid (X1.out.trans hx); clear hx))
  have HEW0 := Lib.hid (X0.out.trans HE.out)
  have BX1 := Lib.hid (BX.out.ext HE.out); have BY1 := Lib.hid (BY.out.ext HE.out)
  clear X1 HE BX BY HT HP X0
  obtain ⟨⟨a0, a1, a2, a3, a4, a5⟩, _⟩ := BX1.out
  obtain ⟨⟨b0, b1, b2, b3, b4, b5⟩, _⟩ := BY1.out
  go_upto_region 11 with (first
    | (go_at_call 21; (with_reducible refine (CC8.out _ (HEW0.out.trans (Y7.out.trans (Ext.alloc _ _)))).mono ?_); rintro e v8 ⟨P8, f8, Q8, g8, rfl, hr, hx⟩; have K8 := Lib.hid hr; have T8 := Lib.hid hx; have Y8 := Lib.hid (Y7.out.trans ((Ext.alloc _ _).trans hx)); clear hx hr; clear a0 a1 a2 a3 a4 a5 b0 b1 b2 b3 b4 b5)
    | (go_at_call 20; (with_reducible refine (CC7.out _ (HEW0.out.trans (Y6.out.trans (Ext.alloc _ _)))).mono ?_); rintro e v7 ⟨P7, f7, Q7, g7, rfl, hr, hx⟩; have K7 := Lib.hid hr; have T7 := Lib.hid hx; have Y7 := Lib.hid (Y6.out.trans ((Ext.alloc _ _).trans hx)); clear hx hr; clear a0 a1 a2 a3 a4 a5 b0 b1 b2 b3 b4 b5; obtain ⟨⟨a0, a1, a2, a3, a4, a5⟩, _⟩ := BX1.out.ext (Y7.out.trans (Ext.alloc v7 (.cells #[.bool C1.neg, .slice P7 (len C1.m) f7, I C1.den, .bool C2.neg, .slice Q7 (len C2.m) g7, I C2.den] 26))); obtain ⟨⟨b0, b1, b2, b3, b4, b5⟩, _⟩ := BY1.out.ext (Y7.out.trans (Ext.alloc v7 (.cells #[.bool C1.neg, .slice P7 (len C1.m) f7, I C1.den, .bool C2.neg, .slice Q7 (len C2.m) g7, I C2.den] 26))))
    | (go_at_call 19; (with_reducible refine (CC6.out _ (HEW0.out.trans (Y5.out.trans (Ext.alloc _ _)))).mono ?_); rintro e v6 ⟨P6, f6, Q6, g6, rfl, hr, hx⟩; have K6 := Lib.hid hr; have T6 := Lib.hid hx; have Y6 := Lib.hid (Y5.out.trans ((Ext.alloc _ _).trans hx)); clear hx hr; clear a0 a1 a2 a3 a4 a5 b0 b1 b2 b3 b4 b5; obtain ⟨⟨a0, a1, a2, a3, a4, a5⟩, _⟩ := BX1.out.ext (Y6.out.trans (Ext.alloc v6 (.cells #[.bool N1.neg, .slice P6 (len N1.m) f6, I N1.den, .bool N2.neg, .slice Q6 (len N2.m) g6, I N2.den] 26))); obtain ⟨⟨b0, b1, b2, b3, b4, b5⟩, _⟩ := BY1.out.ext (Y6.out.trans (Ext.alloc v6 (.cells #[.bool N1.neg, .slice P6 (len N1.m) f6, I N1.den, .bool N2.neg, .slice Q6 (len N2.m) g6, I N2.den] 26))))
    | (go_at_call 18; (with_reducible refine (CC5.out _ (HEW0.out.trans (Y4.out.trans (Ext.alloc _ _)))).mono ?_); rintro e v5 ⟨P5, f5, Q5, g5, rfl, hr, hx⟩; have K5 := Lib.hid hr; have T5 := Lib.hid hx; have Y5 := Lib.hid (Y4.out.trans ((Ext.alloc _ _).trans hx)); clear hx hr; clear a0 a1 a2 a3 a4 a5 b0 b1 b2 b3 b4 b5; obtain ⟨⟨a0, a1, a2, a3, a4, a5⟩, _⟩ := BX1.out.ext (Y5.out.trans (Ext.alloc v5 (.cells #[.bool M1.neg, .slice P5 (len M1.m) f5, I M1.den, .bool M2.neg, .slice Q5 (len M2.m) g5, I M2.den] 26))); obtain ⟨⟨b0, b1, b2, b3, b4, b5⟩, _⟩ := BY1.out.ext (Y5.out.trans (Ext.alloc v5 (.cells #[.bool M1.neg, .slice P5 (len M1.m) f5, I M1.den, .bool M2.neg, .slice Q5 (len M2.m) g5, I M2.den] 26))))
    | (go_at_call 17; (with_reducible refine (CC4.out _ (HEW0.out.trans (Y3.out.trans (Ext.alloc _ _)))).mono ?_); rintro e v4 ⟨P4, f4, Q4, g4, rfl, hr, hx⟩; have K4 := Lib.hid hr; have T4 := Lib.hid hx; have Y4 := Lib.hid (Y3.out.trans ((Ext.alloc _ _).trans hx)); clear hx hr; clear a0 a1 a2 a3 a4 a5 b0 b1 b2 b3 b4 b5; obtain ⟨⟨a0, a1, a2, a3, a4, a5⟩, _⟩ := BX1.out.ext (Y4.out.trans (Ext.alloc v4 (.cells #[.bool R1.neg, .slice P4 (len R1.m) f4, I R1.den, .bool R2.neg, .slice Q4 (len R2.m) g4, I R2.den] 26))); obtain ⟨⟨b0, b1, b2, b3, b4, b5⟩, _⟩ := BY1.out.ext (Y4.out.trans (Ext.alloc v4 (.cells #[.bool R1.neg, .slice P4 (len R1.m) f4, I R1.den, .bool R2.neg, .slice Q4 (len R2.m) g4, I R2.den] 26))))
    | (go_at_call 16; (with_reducible refine (CC3.out _ (HEW0.out.trans (Y2.out.trans (Ext.alloc _ _)))).mono ?_); rintro e v3 ⟨P3, f3, Q3, g3, rfl, hr, hx⟩; have K3 := Lib.hid hr; have T3 := Lib.hid hx; have Y3 := Lib.hid (Y2.out.trans ((Ext.alloc _ _).trans hx)); clear hx hr; clear a0 a1 a2 a3 a4 a5 b0 b1 b2 b3 b4 b5; obtain ⟨⟨a0, a1, a2, a3, a4, a5⟩, _⟩ := BX1.out.ext (Y3.out.trans (Ext.alloc v3 (.cells #[.bool C1.neg, .slice P3 (len C1.m) f3, I C1.den, .bool C2.neg, .slice Q3 (len C2.m) g3, I C2.den] 26))); obtain ⟨⟨b0, b1, b2, b3, b4, b5⟩, _⟩ := BY1.out.ext (Y3.out.trans (Ext.alloc v3 (.cells #[.bool C1.neg, .slice P3 (len C1.m) f3, I C1.den, .bool C2.neg, .slice Q3 (len C2.m) g3, I C2.den] 26))))
    | (go_at_call 15; (with_reducible refine (CC2.out _ (HEW0.out.trans (Y1.out.trans (Ext.alloc _ _)))).mono ?_); rintro e v2 ⟨P2, f2, Q2, g2, rfl, hr, hx⟩; have K2 := Lib.hid hr; have T2 := Lib.hid hx; have Y2 := Lib.hid (Y1.out.trans ((Ext.alloc _ _).trans hx)); clear hx hr; clear a0 a1 a2 a3 a4 a5 b0 b1 b2 b3 b4 b5; obtain ⟨⟨a0, a1, a2, a3, a4, a5⟩, _⟩ := BX1.out.ext (Y2.out.trans (Ext.alloc v2 (.cells #[.bool N1.neg, .slice P2 (len N1.m) f2, I N1.den, .bool N2.neg, .slice Q2 (len N2.m) g2, I N2.den] 26))); obtain ⟨⟨b0, b1, b2, b3, b4, b5⟩, _⟩ := BY1.out.ext (Y2.out.trans (Ext.alloc v2 (.cells #[.bool N1.neg, .slice P2 (len N1.m) f2, I N1.den, .bool N2.neg, .slice Q2 (len N2.m) g2, I N2.den] 26))))
    | (go_at_call 14; (with_reducible refine (CC1.out _ HEW0.out).mono ?_); rintro e v1 ⟨P1, f1, Q1, g1, rfl, hr, hx⟩; have K1 := Lib.hid hr; have T1 := Lib.hid hx; have Y1 := Lib.hid hx; clear hx hr; clear a0 a1 a2 a3 a4 a5 b0 b1 b2 b3 b4 b5; obtain ⟨⟨a0, a1, a2, a3, a4, a5⟩, _⟩ := BX1.out.ext (Y1.out.trans (Ext.alloc v1 (.cells #[.bool M1.neg, .slice P1 (len M1.m) f1, I M1.den, .bool M2.neg, .slice Q1 (len M2.m) g1, I M2.den] 26))); obtain ⟨⟨b0, b1, b2, b3, b4, b5⟩, _⟩ := BY1.out.ext (Y1.out.trans (Ext.alloc v1 (.cells #[.bool M1.neg, .slice P1 (len M1.m) f1, I M1.den, .bool M2.neg, .slice Q1 (len M2.m) g1, I M2.den] 26)))))
  have Z8 := Lib.hid (Ext.refl (v8.alloc (.cells #[.bool R1.neg, .slice P8 (len R1.m) f8, I R1.den, .bool R2.neg, .slice Q8 (len R2.m) g8, I R2.den] 26)))
  have Z7 := Lib.hid (T8.out.trans ((Ext.alloc v8 (.cells #[.bool R1.neg, .slice P8 (len R1.m) f8, I R1.den, .bool R2.neg, .slice Q8 (len R2.m) g8, I R2.den] 26)).trans Z8.out))
  have Z6 := Lib.hid (T7.out.trans ((Ext.alloc v7 (.cells #[.bool C1.neg, .slice P7 (len C1.m) f7, I C1.den, .bool C2.neg, .slice Q7 (len C2.m) g7, I C2.den] 26)).trans Z7.out))
  have Z5 := Lib.hid (T6.out.trans ((Ext.alloc v6 (.cells #[.bool N1.neg, .slice P6 (len N1.m) f6, I N1.den, .bool N2.neg, .slice Q6 (len N2.m) g6, I N2.den] 26)).trans Z6.out))
  have Z4 := Lib.hid (T5.out.trans ((Ext.alloc v5 (.cells #[.bool M1.neg, .slice P5 (len M1.m) f5, I M1.den, .bool M2.neg, .slice Q5 (len M2.m) g5, I M2.den] 26)).trans Z5.out))
  have Z3 := Lib.hid (T4.out.trans ((Ext.alloc v4 (.cells #[.bool R1.neg, .slice P4 (len R1.m) f4, I R1.den, .bool R2.neg, .slice Q4 (len R2.m) g4, I R2.den] 26)).trans Z4.out))
  have Z2 := Lib.hid (T3.out.trans ((Ext.alloc v3 (.cells #[.bool C1.neg, .slice P3 (len C1.m) f3, I C1.den, .bool C2.neg, .slice Q3 (len C2.m) g3, I C2.den] 26)).trans Z3.out))
  have Z1 := Lib.hid (T2.out.trans ((Ext.alloc v2 (.cells #[.bool N1.neg, .slice P2 (len N1.m) f2, I N1.den, .bool N2.neg, .slice Q2 (len N2.m) g2, I N2.den] 26)).trans Z2.out))
  have S1 := Lib.hid ((B6.new v1 _ _ _ _ _ _ _).ext Z1.out)
  have RR1 := Lib.hid (K1.out.ext ((Ext.alloc v1 (.cells #[.bool M1.neg, .slice P1 (len M1.m) f1, I M1.den, .bool M2.neg, .slice Q1 (len M2.m) g1, I M2.den] 26)).trans Z1.out))
  have S2 := Lib.hid ((B6.new v2 _ _ _ _ _ _ _).ext Z2.out)
  have RR2 := Lib.hid (K2.out.ext ((Ext.alloc v2 (.cells #[.bool N1.neg, .slice P2 (len N1.m) f2, I N1.den, .bool N2.neg, .slice Q2 (len N2.m) g2, I N2.den] 26)).trans Z2.out))
  have S3 := Lib.hid ((B6.new v3 _ _ _ _ _ _ _).ext Z3.out)
  have RR3 := Lib.hid (K3.out.ext ((Ext.alloc v3 (.cells #[.bool C1.neg, .slice P3 (len C1.m) f3, I C1.den, .bool C2.neg, .slice Q3 (len C2.m) g3, I C2.den] 26)).trans Z3.out))
  have S4 := Lib.hid ((B6.new v4 _ _ _ _ _ _ _).ext Z4.out)
  have RR4 := Lib.hid (K4.out.ext ((Ext.alloc v4 (.cells #[.bool R1.neg, .slice P4 (len R1.m) f4, I R1.den, .bool R2.neg, .slice Q4 (len R2.m) g4, I R2.den] 26)).trans Z4.out))
  have S5 := Lib.hid ((B6.new v5 _ _ _ _ _ _ _).ext Z5.out)
  have RR5 := Lib.hid (K5.out.ext ((Ext.alloc v5 (.cells #[.bool M1.neg, .slice P5 (len M1.m) f5, I M1.den, .bool M2.neg, .slice Q5 (len M2.m) g5, I M2.den] 26)).trans Z5.out))
  have S6 := Lib.hid ((B6.new v6 _ _ _ _ _ _ _).ext Z6.out)
  have RR6 := Lib.hid (K6.out.ext ((Ext.alloc v6 (.cells #[.bool N1.neg, .slice P6 (len N1.m) f6, I N1.den, .bool N2.neg, .slice Q6 (len N2.m) g6, I N2.den] 26)).trans Z6.out))
  have S7 := Lib.hid ((B6.new v7 _ _ _ _ _ _ _).ext Z7.out)
  have RR7 := Lib.hid (K7.out.ext ((Ext.alloc v7 (.cells #[.bool C1.neg, .slice P7 (len C1.m) f7, I C1.den, .bool C2.neg, .slice Q7 (len C2.m) g7, I C2.den] 26)).trans Z7.out))
  have S8 := Lib.hid (B6.new v8 (.bool R1.neg) (.slice P8 (len R1.m) f8) (I R1.den) (.bool R2.neg) (.slice Q8 (len R2.m) g8) (I R2.den) 26)
  have RR8 := Lib.hid (K8.out.ext ((Ext.alloc v8 (.cells #[.bool R1.neg, .slice P8 (len R1.m) f8, I R1.den, .bool R2.neg, .slice Q8 (len R2.m) g8, I R2.den] 26)).trans Z8.out))
  have ZA := Lib.hid (HEW0.out.trans (Y8.out.trans (Ext.alloc v8 (.cells #[.bool R1.neg, .slice P8 (len R1.m) f8, I R1.den, .bool R2.neg, .slice Q8 (len R2.m) g8, I R2.den] 26))))
  clear K1 T1 Y1 Z1 CC1 K2 T2 Y2 Z2 CC2 K3 T3 Y3 Z3 CC3 K4 T4 Y4 Z4 CC4 K5 T5 Y5 Z5 CC5 K6 T6 Y6 Z6 CC6 K7 T7 Y7 Z7 CC7 K8 T8 Y8 Z8 CC8 BX1 BY1
  generalize v8.alloc (.cells #[.bool R1.neg, .slice P8 (len R1.m) f8, I R1.den, .bool R2.neg, .slice Q8 (len R2.m) g8, I R2.den] 26) = W8 at *
  generalize v1.heap.size = s1 at *
  generalize v2.heap.size = s2 at *
  generalize v3.heap.size = s3 at *
  generalize v4.heap.size = s4 at *
  generalize v5.heap.size = s5 at *
  generalize v6.heap.size = s6 at *
  generalize v7.heap.size = s7 at *
  generalize v8.heap.size = s8 at *
  have SM1 := Lib.hid (fun (w' : World) (e : Ext W8 w') => same_rd (RR1.out.ext e) (RR5.out.ext e) LE1.out.1 LE1.out.2 (c := f1) (e := g1) (k := f5) (l := g5))
  have SM2 := Lib.hid (fun (w' : World) (e : Ext W8 w') => same_rd (RR2.out.ext e) (RR6.out.ext e) LE2.out.1 LE2.out.2 (c := f2) (e := g2) (k := f6) (l := g6))
  have SM3 := Lib.hid (fun (w' : World) (e : Ext W8 w') => same_rd (RR3.out.ext e) (RR7.out.ext e) LE3.out.1 LE3.out.2 (c := f3) (e := g3) (k := f7) (l := g7))
  have SM4 := Lib.hid (fun (w' : World) (e : Ext W8 w') => same_rd (RR4.out.ext e) (RR8.out.ext e) LE4.out.1 LE4.out.2 (c := f4) (e := g4) (k := f8) (l := g8))
  clear RR1 RR2 RR3 RR4 RR5 RR6 RR7 RR8 LE1 LE2 LE3 LE4
  have U0 := Lib.hid (Ext.refl W8)
  go_wp2_with (first
    | (have hg := U7; clear hg; go_at_call 23; (with_reducible refine (SM4.out _ U7.out).mono ?_); rintro e q8 ⟨rfl, hx⟩; have U8 := Lib.hid (U7.out.trans hx); clear hx j0 j1 j2 j3 j4 j5 l0 l1 l2 l3 l4 l5)
    | (have hg := U6; clear hg; go_at_call 22; (with_reducible refine (NE4.out _).mono ?_); rintro e q7 ⟨rfl, hx⟩; have U7 := Lib.hid (U6.out.trans hx); clear hx; obtain ⟨⟨j0, j1, j2, j3, j4, j5⟩, _⟩ := S4.out.ext U7.out; obtain ⟨⟨l0, l1, l2, l3, l4, l5⟩, _⟩ := S8.out.ext U7.out)
    | (have hg := U5; clear hg; go_at_call 23; (with_reducible refine (SM3.out _ U5.out).mono ?_); rintro e q6 ⟨rfl, hx⟩; have U6 := Lib.hid (U5.out.trans hx); clear hx j0 j1 j2 j3 j4 j5 l0 l1 l2 l3 l4 l5)
    | (have hg := U4; clear hg; go_at_call 22; (with_reducible refine (NE3.out _).mono ?_); rintro e q5 ⟨rfl, hx⟩; have U5 := Lib.hid (U4.out.trans hx); clear hx; obtain ⟨⟨j0, j1, j2, j3, j4, j5⟩, _⟩ := S3.out.ext U5.out; obtain ⟨⟨l0, l1, l2, l3, l4, l5⟩, _⟩ := S7.out.ext U5.out)
    | (have hg := U3; clear hg; go_at_call 23; (with_reducible refine (SM2.out _ U3.out).mono ?_); rintro e q4 ⟨rfl, hx⟩; have U4 := Lib.hid (U3.out.trans hx); clear hx j0 j1 j2 j3 j4 j5 l0 l1 l2 l3 l4 l5)
    | (have hg := U2; clear hg; go_at_call 22; (with_reducible refine (NE2.out _).mono ?_); rintro e q3 ⟨rfl, hx⟩; have U3 := Lib.hid (U2.out.trans hx); clear hx; obtain ⟨⟨j0, j1, j2, j3, j4, j5⟩, _⟩ := S2.out.ext U3.out; obtain ⟨⟨l0, l1, l2, l3, l4, l5⟩, _⟩ := S6.out.ext U3.out)
    | (have hg := U1; clear hg; go_at_call 23; (with_reducible refine (SM1.out _ U1.out).mono ?_); rintro e q2 ⟨rfl, hx⟩; have U2 := Lib.hid (U1.out.trans hx); clear hx j0 j1 j2 j3 j4 j5 l0 l1 l2 l3 l4 l5)
    | (have hg := U0; clear hg; go_at_call 22; (with_reducible refine (NE1.out _).mono ?_); rintro e q1 ⟨rfl, hx⟩; have U1 := Lib.hid (U0.out.trans hx); clear hx; obtain ⟨⟨j0, j1, j2, j3, j4, j5⟩, _⟩ := S1.out.ext U1.out; obtain ⟨⟨l0, l1, l2, l3, l4, l5⟩, _⟩ := S5.out.ext U1.out))
  go_ret
  exact ⟨by simp, ZA.out.trans U8.out⟩
end

end Go.Proofs.YtcdkkohklhmpgaaGreatDoor
