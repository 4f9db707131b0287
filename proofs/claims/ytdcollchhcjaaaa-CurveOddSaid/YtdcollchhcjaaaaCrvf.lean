/- Curves: the value as a fraction, truncated. -/
import Derived.Test.YtdcollchhcjaaaaCrvd

namespace Go.Proofs.Ytdcollchhcjaaaa
open Go.RowKit

def ValRes (n : Nat) (X Y : Nat → Int) (x : Int) (w : World) (e : Ending) (w' : World) : Prop := ∃ num den : Int, e = .returned (.tuple #[I num, I den]) ∧ Hid (IsVal n X Y x num den) ∧ Ext w w'

theorem wrap_in {n : Int} (h1 : -9223372036854775808 ≤ n) (h2 : n ≤ 9223372036854775807) : IntKind.i64.wrap n = n := IntWalk.i64_in _ ⟨h1, h2⟩
/-- What the walk wants to know between two points. -/
theorem mid_facts {w : World} {ba oa bb ob N r : Nat} {X Y : Nat → Int} (k : Crv (N + 1) X Y) (m : Cur w ba oa bb ob (N + 1) X Y) {x : Int} (h1 : ¬ x ≤ X 0) (h2 : ¬ X N ≤ x) (g1 : r ≤ N + 1) (g2 : ∀ t, t < r → X t < x) (g3 : ∀ t, r ≤ t → t < N + 1 → x ≤ X t) :
    ∃ (j : Nat) (sd sn af bf p q : Int), r = j + 1 ∧ j + 1 ≤ N ∧ w.cell? ⟨ba, oa + j, none⟩ = some (I (X j)) ∧ w.cell? ⟨ba, oa + (j + 1), none⟩ = some (I (X (j + 1))) ∧ w.cell? ⟨bb, ob + j, none⟩ = some (I (Y j)) ∧ w.cell? ⟨bb, ob + (j + 1), none⟩ = some (I (Y (j + 1))) ∧
      IntKind.i64.wrap (((j + 1 : Nat) : Int) - 1) = (j : Int) ∧ IntKind.i64.wrap (x - X j) = bf ∧ IntKind.i64.wrap (X (j + 1) - x) = af ∧ IntKind.i64.wrap (Y j * af) = p ∧ IntKind.i64.wrap (Y (j + 1) * bf) = q ∧ IntKind.i64.wrap (p + q) = sn ∧ IntKind.i64.wrap (bf + af) = sd ∧
      Hid (IsVal (N + 1) X Y x sn sd) := by
  have r0 : r ≠ 0 := fun e => h1 (g3 0 (by omega) (by omega))
  have rN : r ≠ N + 1 := fun e => h2 (by have := g2 N (by omega); omega)
  obtain ⟨j, rfl⟩ : ∃ j, r = j + 1 := ⟨r - 1, by omega⟩
  have l1 := g2 j (by omega)
  have l2 := g3 (j + 1) (Nat.le_refl _) (by omega)
  have hv := isval_seg k (i := j) (x := x) (by omega) (by omega) l2
  have hm := k.mX j (by omega)
  obtain ⟨a1, a2⟩ := k.bX j (by omega)
  obtain ⟨b1, b2⟩ := k.bX (j + 1) (by omega)
  obtain ⟨c1, c2⟩ := k.bY j (by omega)
  obtain ⟨d1, d2⟩ := k.bY (j + 1) (by omega)
  have t1 := mul_bd (a := Y j) (b := X (j + 1) - x) (A := 1073741824) (B := 2147483648) (by omega) (by omega) (by omega) (by omega)
  have t2 := mul_bd (a := Y (j + 1)) (b := x - X j) (A := 1073741824) (B := 2147483648) (by omega) (by omega) (by omega) (by omega)
  have t3 := hv.lo
  have t4 := hv.hi
  have t5 := k.le
  refine ⟨j, X (j + 1) - X j, Y j * (X (j + 1) - x) + Y (j + 1) * (x - X j), X (j + 1) - x, x - X j, Y j * (X (j + 1) - x), Y (j + 1) * (x - X j), rfl, by omega, m.ca j (by omega), m.ca (j + 1) (by omega), m.cb j (by omega), m.cb (j + 1) (by omega), ?_, ?_, ?_, ?_, ?_, ?_, ?_, hv⟩
  · rw [show ((j + 1 : Nat) : Int) - 1 = (j : Int) by omega]; exact wrap_in (by omega) (by omega)
  · exact wrap_in (by omega) (by omega)
  · exact wrap_in (by omega) (by omega)
  · exact wrap_in (by omega) (by omega)
  · exact wrap_in (by omega) (by omega)
  · exact wrap_in (by omega) (by omega)
  · rw [show x - X j + (X (j + 1) - x) = X (j + 1) - X j by omega]; exact wrap_in (by omega) (by omega)

set_option maxRecDepth 100000 in
set_option maxHeartbeats 1000000 in
theorem value_any {w : World} {ba oa c bb ob e n : Nat} {X Y : Nat → Int} (k : Crv n X Y) (r : Cur w ba oa bb ob n X Y) (x : Int) (hx0 : -9223372036854775808 ≤ x ∧ x ≤ 9223372036854775807) :
    Calls Try.prog 42 #[cw ba oa c bb ob e n, I x] w (ValRes n X Y x w) := by
  obtain ⟨N, rfl⟩ : ∃ N, n = N + 1 := ⟨n - 1, by have := k.two; omega⟩
  have hN1 := k.two
  have hN2 := k.le
  have K := Lib.hid k
  have hba := r.la
  have hbb := r.lb
  have ha2 : ba < w.heap.size + 1 := by omega
  have hb2 : bb < w.heap.size + 1 := by omega
  have ha3 : ba ≠ w.heap.size := by omega
  have hb3 : bb ≠ w.heap.size := by omega
  have e1 : IntKind.i64.wrap (((N + 1 : Nat) : Int) - 1) = (N : Int) := by rw [show ((N + 1 : Nat) : Int) - 1 = (N : Int) by omega]; exact IntWalk.i64_in _ (by omega)
  have x0 := r.ca 0 (by omega)
  have y0 := r.cb 0 (by omega)
  rw [Nat.add_zero] at x0 y0
  have xn := r.ca N (by omega)
  have yn := r.cb N (by omega)
  by_cases h1 : x ≤ X 0
  · have HV : Hid (IsVal (N + 1) X Y x (Y 0) 1) := isval_whole (vl_lo h1) (k.bY 0 (by omega))
    clear k r
    go_enter Try.func42, Try.ntmps42
    go_wp2
    go_ret2
    exact ⟨_, _, rfl, HV, (by repeat (first | exact Ext.refl _ | assumption | exact Ext.alloc _ _ | refine Ext.trans ?_ (by assumption) | refine Ext.trans ?_ (Ext.alloc _ _) | refine Ext.trans ?_ (Ext.drewN _ _) | refine Ext.trans ?_ (Ext.drew _)))⟩
  · by_cases h2 : X N ≤ x
    · have HV : Hid (IsVal (N + 1) X Y x (Y N) 1) := isval_whole (by have := vl_hi k (x := x) (by simpa using h2); simpa using this) (k.bY N (by omega))
      clear k r
      go_enter Try.func42, Try.ntmps42
      go_wp2
      go_ret2
      exact ⟨_, _, rfl, HV, (by repeat (first | exact Ext.refl _ | assumption | exact Ext.alloc _ _ | refine Ext.trans ?_ (by assumption) | refine Ext.trans ?_ (Ext.alloc _ _) | refine Ext.trans ?_ (Ext.drewN _ _) | refine Ext.trans ?_ (Ext.drew _)))⟩
    · have R := Lib.hid r
      have HS := Lib.hid (fun w' (he : Ext w w') => searchInts_any ba oa (N + 1) c X x w' (Nat.lt_of_lt_of_le r.la he.size) (by omega) (r.ext he).ca (fun a b hab hb => k.leX hab hb))
      have H1 := Lib.hid h1
      have H2 := Lib.hid h2
      have HX := Lib.hid hx0
      clear k r hx0 yn
      go_enter Try.func42, Try.ntmps42
      go_wp2_with (go_at_call 45; (refine (HS.out _ (Ext.alloc _ _)).mono ?_); rintro e1 w1 ⟨r, rfl, g1, g2, g3, hb⟩; obtain ⟨j, sd, sn, af, bf, p, q, rfl, hjN, xj, xk, yj, yk, e2, e3, e4, e5, e6, e7, e8, HQ⟩ := mid_facts K.out R.out H1.out H2.out g1 g2 g3; obtain ⟨hc, hf⟩ := hb.old; clear g2 g3)
      go_quiet (fail)
      go_wp2_with fail
      go_quiet (fail)
      go_wp2_with fail
      go_ret2
      exact ⟨_, _, rfl, HQ, (by repeat (first | exact Ext.refl _ | assumption | exact Ext.alloc _ _ | refine Ext.trans ?_ (by assumption) | refine Ext.trans ?_ (Ext.alloc _ _) | refine Ext.trans ?_ (Ext.drewN _ _) | refine Ext.trans ?_ (Ext.drew _)))⟩
end Go.Proofs.Ytdcollchhcjaaaa
