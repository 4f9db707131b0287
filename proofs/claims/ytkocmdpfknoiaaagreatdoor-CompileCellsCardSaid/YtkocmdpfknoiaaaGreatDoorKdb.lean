/- The fixed-point machine: how programs lie in memory; the small functions of the code. -/
import Derived.Test.YtkocmdpfknoiaaaGreatDoorRib
import Derived.Test.YtkocmdpfknoiaaaGreatDoorKda
namespace Go.Proofs.YtkocmdpfknoiaaaGreatDoor
open Go Go.RowKit

/-- Where the parts of a program lie. -/
structure Pp where
  AP : Option Addr
  cP : Nat
  AC : Option Addr
  cC : Nat
  AX : Option Addr
  cX : Nat
  AO : Option Addr
  cO : Nat
abbrev insV (x : Ins) : Value := .agg #[I x.op, I x.dst, I x.a, I x.b, I x.sa, I x.sb, I x.im]
abbrev pgv (G : Pgm) (p : Pp) : Value := .agg #[.slice p.AP G.np p.cP, .slice p.AC G.nc p.cC, .slice p.AX G.ni p.cX, .slice p.AO G.no p.cO]
/-- n instructions behind A. -/
def Rx (w : World) (A : Option Addr) (n : Nat) (X : Nat → Ins) : Prop :=
  0 < n → ∃ b o, A = some ⟨b, o, none⟩ ∧ b < w.heap.size ∧ ∀ i, i < n → w.cell? ⟨b, o + i * 7, none⟩ = some (I (X i).op) ∧ w.cell? ⟨b, o + i * 7 + 1, none⟩ = some (I (X i).dst) ∧ w.cell? ⟨b, o + i * 7 + 2, none⟩ = some (I (X i).a) ∧
    w.cell? ⟨b, o + i * 7 + 3, none⟩ = some (I (X i).b) ∧ w.cell? ⟨b, o + i * 7 + 4, none⟩ = some (I (X i).sa) ∧ w.cell? ⟨b, o + i * 7 + 5, none⟩ = some (I (X i).sb) ∧ w.cell? ⟨b, o + i * 7 + 6, none⟩ = some (I (X i).im)
theorem Rx.ext {w w' : World} {A : Option Addr} {n : Nat} {X : Nat → Ins} (h : Rx w A n X) (e : Ext w w') : Rx w' A n X := fun hn => by
  obtain ⟨b, o, rfl, hb, hc⟩ := h hn
  have q := fun j => e.old.1 b j hb
  exact ⟨b, o, rfl, Nat.lt_of_lt_of_le hb e.size, fun i hi => by simp only [q]; exact hc i hi⟩
/-- n ports behind A. -/
def Rp (w : World) (A : Option Addr) (n : Nat) (P : Nat → Prt) : Prop :=
  0 < n → ∃ b o, A = some ⟨b, o, none⟩ ∧ b < w.heap.size ∧ ∀ i, i < n → w.cell? ⟨b, o + i * 3, none⟩ = some (I (P i).lo) ∧ w.cell? ⟨b, o + i * 3 + 1, none⟩ = some (I (P i).hi) ∧ w.cell? ⟨b, o + i * 3 + 2, none⟩ = some (I (P i).fr)
theorem Rp.ext {w w' : World} {A : Option Addr} {n : Nat} {P : Nat → Prt} (h : Rp w A n P) (e : Ext w w') : Rp w' A n P := fun hn => by
  obtain ⟨b, o, rfl, hb, hc⟩ := h hn
  have q := fun j => e.old.1 b j hb
  exact ⟨b, o, rfl, Nat.lt_of_lt_of_le hb e.size, fun i hi => by simp only [q]; exact hc i hi⟩
structure Pm (w : World) (G : Pgm) (p : Pp) : Prop where
  ports : Rp w p.AP G.np G.P
  init : Ri w p.AC G.nc G.C
  code : Rx w p.AX G.ni G.X
  outs : Ri w p.AO G.no G.O
  lp : G.np ≤ maxLen
  lc : G.nc ≤ maxLen
  lx : G.ni ≤ maxLen
  lo : G.no ≤ maxLen
  nC : p.AC = none → p.cC = 0
  kX : G.ni ≤ p.cX
theorem Pm.ext {w w' : World} {G : Pgm} {p : Pp} (h : Pm w G p) (e : Ext w w') : Pm w' G p :=
  ⟨h.ports.ext e, h.init.ext e, h.code.ext e, h.outs.ext e, h.lp, h.lc, h.lx, h.lo, h.nC, h.kX⟩
/-- A program's box. -/
structure Px (w : World) (g : Nat) (G : Pgm) (p : Pp) : Prop where
  c0 : w.cell? ⟨g, 0, none⟩ = some (.slice p.AP G.np p.cP)
  c1 : w.cell? ⟨g, 1, none⟩ = some (.slice p.AC G.nc p.cC)
  c2 : w.cell? ⟨g, 2, none⟩ = some (.slice p.AX G.ni p.cX)
  c3 : w.cell? ⟨g, 3, none⟩ = some (.slice p.AO G.no p.cO)
theorem Px.lt {w : World} {g : Nat} {G : Pgm} {p : Pp} (h : Px w g G p) : g < w.heap.size := World.block_lt_of_cell? w _ h.c0
theorem Px.ext {w w' : World} {g : Nat} {G : Pgm} {p : Pp} (h : Px w g G p) (e : Ext w w') : Px w' g G p :=
  ⟨(e.old.1 _ _ h.lt).trans h.c0, (e.old.1 _ _ h.lt).trans h.c1, (e.old.1 _ _ h.lt).trans h.c2, (e.old.1 _ _ h.lt).trans h.c3⟩
theorem Px.new (w : World) (G : Pgm) (p : Pp) (t : TypeId) : Px (w.alloc (.cells #[.slice p.AP G.np p.cP, .slice p.AC G.nc p.cC, .slice p.AX G.ni p.cX, .slice p.AO G.no p.cO] t)) w.heap.size G p :=
  ⟨by go_simp, by go_simp, by go_simp, by go_simp⟩
/-- An instruction's box. -/
structure BI7 (w : World) (g : Nat) (x : Ins) : Prop where
  c0 : w.cell? ⟨g, 0, none⟩ = some (I x.op)
  c1 : w.cell? ⟨g, 1, none⟩ = some (I x.dst)
  c2 : w.cell? ⟨g, 2, none⟩ = some (I x.a)
  c3 : w.cell? ⟨g, 3, none⟩ = some (I x.b)
  c4 : w.cell? ⟨g, 4, none⟩ = some (I x.sa)
  c5 : w.cell? ⟨g, 5, none⟩ = some (I x.sb)
  c6 : w.cell? ⟨g, 6, none⟩ = some (I x.im)
theorem BI7.lt {w : World} {g : Nat} {x : Ins} (h : BI7 w g x) : g < w.heap.size := World.block_lt_of_cell? w _ h.c0
theorem BI7.ext {w w' : World} {g : Nat} {x : Ins} (h : BI7 w g x) (e : Ext w w') : BI7 w' g x := by
  have q := fun j => e.old.1 g j h.lt
  exact ⟨by rw [q]; exact h.c0, by rw [q]; exact h.c1, by rw [q]; exact h.c2, by rw [q]; exact h.c3, by rw [q]; exact h.c4, by rw [q]; exact h.c5, by rw [q]; exact h.c6⟩
theorem BI7.new (w : World) (x : Ins) (t : TypeId) : BI7 (w.alloc (.cells #[I x.op, I x.dst, I x.a, I x.b, I x.sa, I x.sb, I x.im] t)) w.heap.size x :=
  ⟨by go_simp, by go_simp, by go_simp, by go_simp, by go_simp, by go_simp, by go_simp⟩

set_option maxHeartbeats 400000 in
theorem isWord_any (x : Int) (w : World) : Calls Tryz.prog 99 #[I x] w fun e w' => e = .returned (.bool (wdB x)) ∧ Ext w w' := by
  by_cases h1 : -2147483648 ≤ x
  · have H := Lib.hid (show wdB x = decide (x ≤ 2147483647) by simp [wdB, h1])
    rw [H.out]
    go_enter Tryz.func99, Tryz.ntmps99
    go_wp2
    go_ret
    exact ⟨rfl, Ext.refl _⟩
  · have H := Lib.hid (show wdB x = false by simp [wdB, h1])
    rw [H.out]
    go_enter Tryz.func99, Tryz.ntmps99
    go_wp2
    go_ret
    exact ⟨rfl, Ext.refl _⟩
set_option maxHeartbeats 400000 in
theorem isShift_any (x : Int) (w : World) : Calls Tryz.prog 101 #[I x] w fun e w' => e = .returned (.bool (shB x)) ∧ Ext w w' := by
  by_cases h1 : -62 ≤ x
  · have H := Lib.hid (show shB x = decide (x ≤ 30) by simp [shB, h1])
    rw [H.out]
    go_enter Tryz.func101, Tryz.ntmps101
    go_wp2
    go_ret
    exact ⟨rfl, Ext.refl _⟩
  · have H := Lib.hid (show shB x = false by simp [shB, h1])
    rw [H.out]
    go_enter Tryz.func101, Tryz.ntmps101
    go_wp2
    go_ret
    exact ⟨rfl, Ext.refl _⟩
set_option maxHeartbeats 400000 in
theorem isIndexP_any (i c : Int) (w : World) : Calls Tryz.prog 50 #[I i, I c] w fun e w' => e = .returned (.bool (ixB c i)) ∧ Ext w w' := by
  by_cases h1 : 0 ≤ i
  · have H := Lib.hid (show ixB c i = decide (i < c) by simp [ixB, h1])
    rw [H.out]
    go_enter Tryz.func50, Tryz.ntmps50
    go_wp2
    go_ret
    exact ⟨rfl, Ext.refl _⟩
  · have H := Lib.hid (show ixB c i = false by simp [ixB, h1])
    rw [H.out]
    go_enter Tryz.func50, Tryz.ntmps50
    go_wp2
    go_ret
    exact ⟨rfl, Ext.refl _⟩
/-- A port's box. -/
structure Bp (w : World) (g : Nat) (x : Prt) : Prop where
  c0 : w.cell? ⟨g, 0, none⟩ = some (I x.lo)
  c1 : w.cell? ⟨g, 1, none⟩ = some (I x.hi)
  c2 : w.cell? ⟨g, 2, none⟩ = some (I x.fr)
theorem Bp.lt {w : World} {g : Nat} {x : Prt} (h : Bp w g x) : g < w.heap.size := World.block_lt_of_cell? w _ h.c0
theorem Bp.ext {w w' : World} {g : Nat} {x : Prt} (h : Bp w g x) (e : Ext w w') : Bp w' g x :=
  ⟨(e.old.1 _ _ h.lt).trans h.c0, (e.old.1 _ _ h.lt).trans h.c1, (e.old.1 _ _ h.lt).trans h.c2⟩
theorem Bp.new (w : World) (x : Prt) (t : TypeId) : Bp (w.alloc (.cells #[I x.lo, I x.hi, I x.fr] t)) w.heap.size x := ⟨by go_simp, by go_simp, by go_simp⟩
set_option maxRecDepth 100000 in
set_option maxHeartbeats 1000000 in
theorem isPortP_any (p : Prt) (w : World) : Calls Tryz.prog 47 #[.agg #[I p.lo, I p.hi, I p.fr]] w fun e w' => e = .returned (.bool (prtE p == 0)) ∧ Ext w w' := by
  have HV : Hid ((prtE p == 0) = (wdB p.lo && (wdB p.hi && (decide (p.lo ≤ p.hi) && (decide (0 ≤ p.fr) && decide (p.fr ≤ 30)))))) := by
    show _ = _
    obtain ⟨lo, hi, fr⟩ := p
    unfold prtE wdB
    by_cases h1 : -2147483648 ≤ lo <;> by_cases h2 : lo ≤ hi <;> by_cases h3 : hi < 2147483648 <;> by_cases h4 : 0 ≤ fr <;> by_cases h5 : fr ≤ 30 <;> simp [h1, h2, h3, h4, h5] <;> omega
  have HL : Hid (∀ w', Calls Tryz.prog 99 #[I p.lo] w' fun e w'' => e = .returned (.bool (wdB p.lo)) ∧ Ext w' w'') := isWord_any p.lo
  have HH : Hid (∀ w', Calls Tryz.prog 99 #[I p.hi] w' fun e w'' => e = .returned (.bool (wdB p.hi)) ∧ Ext w' w'') := isWord_any p.hi
  rw [HV.out]; clear HV
  generalize wdB p.lo = bl at *
  generalize wdB p.hi = bh at *
  obtain ⟨W1, hW1⟩ : ∃ W1, W1 = w.alloc (.cells #[I p.lo, I p.hi, I p.fr] 47) := ⟨_, rfl⟩
  have HC : Hid (∀ w', Ext W1 w' → Bp w' w.heap.size p) := fun w' e => (hW1 ▸ Bp.new w p _ : Bp W1 w.heap.size p).ext e
  have HE : Hid (Ext w W1) := (hW1 ▸ Ext.alloc _ _ : Ext w W1)
  obtain ⟨c0, c1, c2⟩ := HC.out _ (Ext.refl _)
  have hx := Ext.refl W1
  cases bl
  · go_enter Tryz.func47, Tryz.ntmps47
    go_upto_region 1 with fail
    rw [← hW1]; clear hW1
    go_wp2_with (first | (go_at_call 99; (with_reducible refine (HL.out _).mono ?_); rintro e w1 ⟨rfl, hb1⟩; replace hx := hx.trans hb1; clear hb1 c0 c1 c2; obtain ⟨c0, c1, c2⟩ := HC.out _ hx) | (go_at_call 99; (with_reducible refine (HH.out _).mono ?_); rintro e w1 ⟨rfl, hb1⟩; replace hx := hx.trans hb1; clear hb1 c0 c1 c2; obtain ⟨c0, c1, c2⟩ := HC.out _ hx))
    go_ret
    exact ⟨rfl, HE.out.trans hx⟩
  · cases bh
    · go_enter Tryz.func47, Tryz.ntmps47
      go_upto_region 1 with fail
      rw [← hW1]; clear hW1
      go_wp2_with (first | (go_at_call 99; (with_reducible refine (HL.out _).mono ?_); rintro e w1 ⟨rfl, hb1⟩; replace hx := hx.trans hb1; clear hb1 c0 c1 c2; obtain ⟨c0, c1, c2⟩ := HC.out _ hx) | (go_at_call 99; (with_reducible refine (HH.out _).mono ?_); rintro e w1 ⟨rfl, hb1⟩; replace hx := hx.trans hb1; clear hb1 c0 c1 c2; obtain ⟨c0, c1, c2⟩ := HC.out _ hx))
      go_ret
      exact ⟨rfl, HE.out.trans hx⟩
    · by_cases h2 : p.lo ≤ p.hi
      · by_cases h4 : 0 ≤ p.fr
        · by_cases h5 : p.fr ≤ 30
          all_goals
            go_enter Tryz.func47, Tryz.ntmps47
            go_upto_region 1 with fail
            rw [← hW1]; clear hW1
            go_wp2_with (first | (go_at_call 99; (with_reducible refine (HL.out _).mono ?_); rintro e w1 ⟨rfl, hb1⟩; replace hx := hx.trans hb1; clear hb1 c0 c1 c2; obtain ⟨c0, c1, c2⟩ := HC.out _ hx) | (go_at_call 99; (with_reducible refine (HH.out _).mono ?_); rintro e w1 ⟨rfl, hb1⟩; replace hx := hx.trans hb1; clear hb1 c0 c1 c2; obtain ⟨c0, c1, c2⟩ := HC.out _ hx))
            go_ret
            exact ⟨by simp [h2, h4, h5], HE.out.trans hx⟩
        · go_enter Tryz.func47, Tryz.ntmps47
          go_upto_region 1 with fail
          rw [← hW1]; clear hW1
          go_wp2_with (first | (go_at_call 99; (with_reducible refine (HL.out _).mono ?_); rintro e w1 ⟨rfl, hb1⟩; replace hx := hx.trans hb1; clear hb1 c0 c1 c2; obtain ⟨c0, c1, c2⟩ := HC.out _ hx) | (go_at_call 99; (with_reducible refine (HH.out _).mono ?_); rintro e w1 ⟨rfl, hb1⟩; replace hx := hx.trans hb1; clear hb1 c0 c1 c2; obtain ⟨c0, c1, c2⟩ := HC.out _ hx))
          go_ret
          exact ⟨by simp; omega, HE.out.trans hx⟩
      · go_enter Tryz.func47, Tryz.ntmps47
        go_upto_region 1 with fail
        rw [← hW1]; clear hW1
        go_wp2_with (first | (go_at_call 99; (with_reducible refine (HL.out _).mono ?_); rintro e w1 ⟨rfl, hb1⟩; replace hx := hx.trans hb1; clear hb1 c0 c1 c2; obtain ⟨c0, c1, c2⟩ := HC.out _ hx) | (go_at_call 99; (with_reducible refine (HH.out _).mono ?_); rintro e w1 ⟨rfl, hb1⟩; replace hx := hx.trans hb1; clear hb1 c0 c1 c2; obtain ⟨c0, c1, c2⟩ := HC.out _ hx))
        go_ret
        exact ⟨by simp; omega, HE.out.trans hx⟩

set_option maxRecDepth 100000 in
set_option maxHeartbeats 1000000 in
theorem areWords_any {w : World} {A : Option Addr} {n c : Nat} {f : Nat → Int} (ra : Ri w A n f) (hn : n ≤ maxLen) :
    Calls Tryz.prog 48 #[.slice A n c] w fun e w' => e = .returned (.bool (wdE n f == 0)) ∧ Ext w w' := by
  unfold maxLen at hn
  have HR := Lib.hid ra; clear ra
  have HW := Lib.hid isWord_any
  go_enter Tryz.func48, Tryz.ntmps48
  go_wp2_with fail
  go_loopw [7] (fun s wr => ∃ j : Nat, j ≤ n ∧ s = I j ∧ Ext w wr ∧ Hid (∀ i, i < j → wdB (f i) = true)) (fun s _ => n - (intOf s).toNat)
  case atStart => exact ⟨0, Nat.zero_le _, rfl, Ext.refl _, fun i hi => by omega⟩
  case round =>
    obtain ⟨j, hj, rfl, hb, HJ⟩ := hrel
    by_cases hlt : j < n
    · obtain ⟨b, o, ea, hbl, hc⟩ := HR.out.ext hb (by omega)
      subst ea
      have xj := hc j hlt
      have hlt' : (j : Int) < (n : Int) := by omega
      have HX : Hid (∀ w', Calls Tryz.prog 99 #[I (f j)] w' fun e w'' => e = .returned (.bool (wdB (f j))) ∧ Ext w' w'') := isWord_any (f j)
      clear hc
      cases hw : wdB (f j)
      · rw [hw] at HX
        have HV := Lib.hid (show (wdE n f == 0) = false by rw [wdE_3 hlt hw]; rfl)
        clear hw
        go_wp2_with (go_at_call 99; (with_reducible refine (HX.out _).mono ?_); rintro e w1 ⟨rfl, hb1⟩; replace hb := hb.trans hb1; clear hb1)
        go_ret
        exact ⟨by rw [HV.out]; rfl, hb⟩
      · rw [hw] at HX
        have HN : Hid (∀ i, i < j + 1 → wdB (f i) = true) := fun i hi => by
          by_cases e : i = j
          · subst e; exact hw
          · exact HJ.out i (by omega)
        clear hw
        go_wp2_with (go_at_call 99; (with_reducible refine (HX.out _).mono ?_); rintro e w1 ⟨rfl, hb1⟩; replace hb := hb.trans hb1; clear hb1)
        go_roundw
        case rel => exact ⟨j + 1, by omega, by go_num, hb, HN⟩
        case measure => simp [intOf]; omega
    · obtain rfl : j = n := by omega
      have HV := Lib.hid (show (wdE j f == 0) = true by rw [wdE_0.2 HJ.out]; rfl)
      go_wp2_with fail
      go_ret
      exact ⟨by rw [HV.out]; rfl, hb⟩
set_option maxRecDepth 100000 in
set_option maxHeartbeats 1000000 in
theorem operandsOf_any (k : Int) (w : World) : Calls Tryz.prog 100 #[I k] w fun e w' => e = .returned (.tuple #[.agg #[.bool (usA k), .bool (usB k), .bool (usA k), .bool (usT k), .bool (usI k)], .bool (isO k)]) ∧ Ext w w' := by
  by_cases h : 0 ≤ k ∧ k ≤ 10
  · obtain rfl | rfl | rfl | rfl | rfl | rfl | rfl | rfl | rfl | rfl | rfl : k = 0 ∨ k = 1 ∨ k = 2 ∨ k = 3 ∨ k = 4 ∨ k = 5 ∨ k = 6 ∨ k = 7 ∨ k = 8 ∨ k = 9 ∨ k = 10 := by omega
    all_goals
      clear h
      have hb := Ext.refl w
      go_enter Tryz.func100, Tryz.ntmps100
      go_wp2_with fail
      exact bodyPost_ret (by simp [results, Tryz.results100, go_sem]; decide) rfl ⟨rfl, by repeat (first | exact Ext.refl _ | exact Ext.alloc _ _ | (refine Ext.toSet ?_ (by simp)))⟩
  · have h0 : ¬ k = 0 := by omega
    have h1 : ¬ k = 1 := by omega
    have h2 : ¬ k = 2 := by omega
    have h3 : ¬ k = 3 := by omega
    have h4 : ¬ k = 4 := by omega
    have h5 : ¬ k = 5 := by omega
    have h6 : ¬ k = 6 := by omega
    have h7 : ¬ k = 7 := by omega
    have h8 : ¬ k = 8 := by omega
    have h9 : ¬ k = 9 := by omega
    have h10 : ¬ k = 10 := by omega
    have HV := Lib.hid (show usA k = false ∧ usB k = false ∧ usT k = false ∧ usI k = false ∧ isO k = false by
      refine ⟨?_, ?_, ?_, ?_, ?_⟩ <;> simp only [usA, usB, usT, usI, isO, decide_eq_false_iff_not] <;> omega)
    rw [HV.out.1, HV.out.2.1, HV.out.2.2.1, HV.out.2.2.2.1, HV.out.2.2.2.2]
    clear h HV
    go_enter Tryz.func100, Tryz.ntmps100
    go_wp2_with fail
    exact bodyPost_ret (by simp [results, Tryz.results100, go_sem]) rfl ⟨rfl, by repeat (first | exact Ext.refl _ | exact Ext.alloc _ _ | (refine Ext.toSet ?_ (by simp)))⟩
set_option maxRecDepth 100000 in
set_option maxHeartbeats 1000000 in
theorem shiftC_any (x k : Int) (w : World) (h1 : -4611686018427387904 ≤ x) (h2 : x ≤ 4611686018427387904) (h3 : -62 ≤ k) (h4 : k ≤ 30) : Calls Tryz.prog 111 #[I x, I k] w fun e w' => e = .returned (I (shC x k)) ∧ Ext w w' := by
  by_cases hk : k < 0
  · have HV := Lib.hid (show shC x k = x / 2 ^ (-k).toNat by unfold shC; rw [if_pos hk])
    have hw : IntKind.i64.wrap (-k) = -k := IntWalk.i64_in _ (by omega)
    rw [HV.out]
    clear HV
    go_enter Tryz.func111, Tryz.ntmps111
    go_wp2
    go_ret
    exact ⟨rfl, Ext.refl _⟩
  · have HV := Lib.hid (show shC x k = kcl x (-4294967296) 4294967296 * 2 ^ k.toNat by unfold shC; rw [if_neg hk])
    have hb := shC_bd h1 h2 h4
    rw [HV.out] at hb
    have hw : wrap64 (kcl x (-4294967296) 4294967296 * 2 ^ k.toNat) = kcl x (-4294967296) 4294967296 * 2 ^ k.toNat := wrap_id (by omega) (by omega)
    rw [HV.out]
    clear HV hb
    by_cases l1 : x < -4294967296
    · have e : kcl x (-4294967296) 4294967296 = -4294967296 := by unfold kcl; rw [if_pos l1]
      rw [e] at hw ⊢
      have HW := Lib.hid hw
      clear e hw
      go_enter Tryz.func111, Tryz.ntmps111
      go_wp2
      go_ret
      exact ⟨ret_int HW.out, Ext.refl _⟩
    · by_cases l2 : 4294967296 < x
      · have e : kcl x (-4294967296) 4294967296 = 4294967296 := by unfold kcl; rw [if_neg l1, if_pos l2]
        rw [e] at hw ⊢
        have HW := Lib.hid hw
        clear e hw
        go_enter Tryz.func111, Tryz.ntmps111
        go_wp2
        go_ret
        exact ⟨ret_int HW.out, Ext.refl _⟩
      · have e : kcl x (-4294967296) 4294967296 = x := kcl_id (by omega) (by omega)
        rw [e] at hw ⊢
        have HW := Lib.hid hw
        clear e hw
        go_enter Tryz.func111, Tryz.ntmps111
        go_wp2
        go_ret
        exact ⟨ret_int HW.out, Ext.refl _⟩

end Go.Proofs.YtkocmdpfknoiaaaGreatDoor
