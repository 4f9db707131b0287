/- Curves: Inverse of the code and of the reference. -/
import Derived.Test.YtdcollchhcjaaaaCrvi
import Derived.BigRegion
namespace Go.Proofs.Ytdcollchhcjaaaa
open Go.RowKit

theorem inv_of {N : Nat} {X Y : Nat → Int} (k : Crv (N + 1) X Y) {y : Int} (hy : y ≤ Y N) {m r : Nat} (hm : (m : Int) = X N - X 0) (h1 : r ≤ m) (h2 : ∀ t, t < r → decide (y ≤ atv (N + 1) X Y (X 0 + (t : Int))) = false) (h3 : ∀ t, r ≤ t → t < m → decide (y ≤ atv (N + 1) X Y (X 0 + (t : Int))) = true) :
    Hid (IsInv (N + 1) X Y y (X 0 + (r : Int))) := by
  refine ⟨by omega, by rw [Nat.add_sub_cancel]; omega, ?_, fun x hx hxr => ?_⟩
  · by_cases h : r < m
    · have := h3 r (Nat.le_refl _) h; simpa using this
    · rw [atv_hi k (by rw [Nat.add_sub_cancel]; omega), Nat.add_sub_cancel]; exact hy
  · have := h2 (x - X 0).toNat (by omega)
    rw [show X 0 + ((x - X 0).toNat : Int) = x by omega] at this
    simp at this; omega

set_option maxRecDepth 100000 in
set_option maxHeartbeats 1000000 in
theorem inverse_ok {w : World} {ba oa c bb ob e n : Nat} {X Y : Nat → Int} (hz : chk n n X Y = 0) (r : Cur w ba oa bb ob n X Y) (y : Int) (hy : y ≤ Y (n - 1)) :
    Calls Try.prog 21 #[cw ba oa c bb ob e n, I y] w fun e' w' => ∃ v : Int, e' = .returned (.tuple #[I v, .nilIface]) ∧ Hid (IsInv n X Y y v) ∧ Ext w w' := by
  have k := (crv_of hz).2
  have HC := Lib.hid (fun w' (he : Ext w w') => check_ok (c := c) (e := e) hz r w' he)
  obtain ⟨N, rfl⟩ : ∃ N, n = N + 1 := ⟨n - 1, by have := k.two; omega⟩
  have hN1 := k.two
  have hN2 := k.le
  rw [Nat.add_sub_cancel] at hy
  have hba := r.la
  have hbb := r.lb
  have ha2 : ba < w.heap.size + 1 + 1 := by omega
  have hb2 : bb < w.heap.size + 1 + 1 := by omega
  have ha3 : ba ≠ w.heap.size := by omega
  have hb3 : bb ≠ w.heap.size := by omega
  have ha4 : ba ≠ w.heap.size + 1 := by omega
  have hb4 : bb ≠ w.heap.size + 1 := by omega
  have e1 : IntKind.i64.wrap (((N + 1 : Nat) : Int) - 1) = (N : Int) := by rw [show ((N + 1 : Nat) : Int) - 1 = (N : Int) by omega]; exact IntWalk.i64_in _ (by omega)
  have x0 := r.ca 0 (by omega)
  rw [Nat.add_zero] at x0
  have xn := r.ca N (by omega)
  have yn := r.cb N (by omega)
  have R := Lib.hid r; clear r
  have K := Lib.hid k; clear k hz
  go_enter Try.func21, Try.ntmps21
  go_wp2_with (go_at_call 17; (refine (HC.out _ ((Ext.alloc _ _).trans (Ext.alloc _ _))).mono ?_); rintro e1 w1 ⟨rfl, hb⟩; obtain ⟨hc, hf⟩ := hb.old)
  go_quiet (fail)
  go_wp2_with fail
  replace hb := Ext.trans hb (Ext.drewN w1 nq)
  generalize w1.drewN nq = w2 at hb ⊢
  clear hc hf
  obtain ⟨hc, hf⟩ := hb.old
  have S0 : B2 w2 w.heap.size (.slice (some ⟨ba, oa, none⟩) (N + 1) c) (.slice (some ⟨bb, ob, none⟩) (N + 1) e) := ((B2.new w _ _ _).ext (Ext.alloc _ _)).ext hb
  have S1 : w2.cell? ⟨w.heap.size + 1, 0, none⟩ = some (I y) := by rw [hc _ _ (by simp)]; go_simp
  obtain ⟨⟨s0, s1⟩, sz⟩ := S0
  have hl := hb.size
  have hsz : w.heap.size + 2 ≤ w2.heap.size := by simpa using hl
  have X0 := (((Ext.alloc w _).trans (Ext.alloc _ _)).trans hb).old.1 ba oa hba
  have XN := (((Ext.alloc w _).trans (Ext.alloc _ _)).trans hb).old.1 ba (oa + N) hba
  rw [x0] at X0; rw [xn] at XN
  have hq1 : (N : Int) < (N : Int) + 1 := by omega
  have hq2 : (0 : Int) ≤ (N : Int) := by omega
  have hq3 : (0 : Int) < (N : Int) + 1 := by omega
  have HB := Lib.hid hb
  have hq4 : w.heap.size < w2.heap.size := by omega
  have hq5 : w.heap.size ≠ w2.heap.size := by omega
  have hq6 : w.heap.size + 1 < w2.heap.size := by omega
  have hq7 : w.heap.size + 1 ≠ w2.heap.size := by omega
  have hq8 : ba < w2.heap.size := by omega
  have hq9 : ba ≠ w2.heap.size := by omega
  clear hc hf hb hl x0 xn yn
  go_region
  obtain ⟨W3, hW3⟩ : ∃ W3, W3 = (w2.alloc (.cells #[I (X 0)] 3)).drew := ⟨_, rfl⟩
  rw [← hW3]
  have E3 : Ext w2 W3 := by rw [hW3]; exact (Ext.alloc _ _).trans (Ext.drew _)
  have c0 : W3.cell? ⟨w.heap.size, 0, none⟩ = some (.slice (some ⟨ba, oa, none⟩) (N + 1) c) := (E3.old.1 _ _ hq4).trans s0
  have c1 : W3.cell? ⟨w.heap.size, 1, none⟩ = some (.slice (some ⟨bb, ob, none⟩) (N + 1) e) := (E3.old.1 _ _ hq4).trans s1
  have c2 : W3.cell? ⟨w.heap.size + 1, 0, none⟩ = some (I y) := (E3.old.1 _ _ hq6).trans S1
  have c3 : W3.cell? ⟨w2.heap.size, 0, none⟩ = some (I (X 0)) := by rw [hW3]; go_simp
  have z3 : w2.heap.size < W3.heap.size := World.block_lt_of_cell? _ _ c3
  have EW : Ext w W3 := (((Ext.alloc _ _).trans (Ext.alloc _ _)).trans HB.out).trans E3
  have o3 := K.out.leX (i := 0) (j := N) (by omega) (by omega)
  have b0 := K.out.bX 0 (by omega)
  have bN := K.out.bX N (by omega)
  obtain ⟨m, hm⟩ : ∃ m : Nat, (m : Int) = X N - X 0 := ⟨(X N - X 0).toNat, by omega⟩
  have e3 : IntKind.i64.wrap (X N - X 0) = (m : Int) := by rw [← hm]; exact wrap_in (by omega) (by omega)
  have eg : ∀ args w, (callFunc 39 args).run Try.prog w = .ok (.enter 39 args) w := enters_of Try.func39 (by kernel_rfl) rfl
  have HS := Lib.hid (search_any 39 #[.pointer (some ⟨w.heap.size, 0, none⟩), .pointer (some ⟨w2.heap.size, 0, none⟩), .pointer (some ⟨w.heap.size + 1, 0, none⟩)] m (fun i => decide (y ≤ atv (N + 1) X Y (X 0 + (i : Int)))) W3 eg (by omega)
    (fun i w' hi he => invClosure_any K.out (R.out.ext (EW.trans he)) w.heap.size w2.heap.size (w.heap.size + 1) (X 0) y i (by omega) b0 ((he.old.1 _ _ (by omega)).trans c0) ((he.old.1 _ _ (by omega)).trans c1) ((he.old.1 _ _ (by omega)).trans c3) ((he.old.1 _ _ (by omega)).trans c2))
    (fun a b hab hb h => by have := atv_mono K.out (x := X 0 + (a : Int)) (y := X 0 + (b : Int)) (by omega); simp at h ⊢; omega))
  have HM := Lib.hid hm
  have HW := Lib.hid EW
  have HO := Lib.hid (show -1073741824 ≤ X 0 ∧ X 0 ≤ 1073741824 ∧ (m : Int) ≤ 2147483648 by omega)
  have HY := Lib.hid hy
  clear hm EW hW3 E3 s0 s1 S1 sz X0 XN o3 b0 bN hy c0 c1 c2
  go_wp2_with (go_at_call 38; refine HS.out.mono ?_; rintro e9 w9 ⟨r, rfl, h1, h2, h3, hb9⟩; have H2 := Lib.hid h2; have H3 := Lib.hid h3; clear h2 h3; have c9 := (hb9.old.1 _ 0 z3).trans c3; have e9 : IntKind.i64.wrap (X 0 + (r : Int)) = X 0 + (r : Int) := (by obtain ⟨u1, u2, u3⟩ := HO.out; exact wrap_in (by omega) (by omega)))
  go_ret2
  refine ⟨_, rfl, inv_of K.out HY.out HM.out h1 H2.out H3.out, HW.out.trans hb9⟩

set_option maxRecDepth 100000 in
set_option maxHeartbeats 1000000 in
theorem inverse_range {w : World} {ba oa c bb ob e n : Nat} {X Y : Nat → Int} (hz : chk n n X Y = 0) (r : Cur w ba oa bb ob n X Y) (y : Int) (hy : Y (n - 1) < y) :
    Calls Try.prog 21 #[cw ba oa c bb ob e n, I y] w fun e' w' => e' = .returned (.tuple #[I 0, .iface 51 (I 3)]) ∧ Ext w w' := by
  have k := (crv_of hz).2
  have HC := Lib.hid (fun w' (he : Ext w w') => check_ok (c := c) (e := e) hz r w' he)
  obtain ⟨N, rfl⟩ : ∃ N, n = N + 1 := ⟨n - 1, by have := k.two; omega⟩
  have hN1 := k.two
  have hN2 := k.le
  rw [Nat.add_sub_cancel] at hy
  have hbb := r.lb
  have hb2 : bb < w.heap.size + 1 + 1 := by omega
  have hb3 : bb ≠ w.heap.size := by omega
  have hb4 : bb ≠ w.heap.size + 1 := by omega
  have e1 : IntKind.i64.wrap (((N + 1 : Nat) : Int) - 1) = (N : Int) := by rw [show ((N + 1 : Nat) : Int) - 1 = (N : Int) by omega]; exact IntWalk.i64_in _ (by omega)
  have yn := r.cb N (by omega)
  clear r k hz
  go_enter Try.func21, Try.ntmps21
  go_wp2_with (go_at_call 17; (refine (HC.out _ ((Ext.alloc _ _).trans (Ext.alloc _ _))).mono ?_); rintro e1 w1 ⟨rfl, hb⟩; obtain ⟨hc, hf⟩ := hb.old)
  go_quiet (fail)
  go_wp2_with fail
  go_ret2
  exact ⟨rfl, (by repeat (first | exact Ext.refl _ | assumption | exact Ext.alloc _ _ | refine Ext.trans ?_ (by assumption) | refine Ext.trans ?_ (Ext.alloc _ _) | refine Ext.trans ?_ (Ext.drewN _ _) | refine Ext.trans ?_ (Ext.drew _)))⟩

set_option maxRecDepth 100000 in
set_option maxHeartbeats 1000000 in
theorem rinverse_any {w : World} {ba oa c bb ob e n : Nat} {X Y : Nat → Int} (k : Crv n X Y) (r : Cur w ba oa bb ob n X Y) (y : Int) (hy : y ≤ Y (n - 1)) :
    Calls Try.prog 22 #[cw ba oa c bb ob e n, I y] w fun e' w' => ∃ v : Int, e' = .returned (I v) ∧ Hid (IsInv n X Y y v) ∧ Ext w w' := by
  obtain ⟨N, rfl⟩ : ∃ N, n = N + 1 := ⟨n - 1, by have := k.two; omega⟩
  have hN1 := k.two
  have hN2 := k.le
  rw [Nat.add_sub_cancel] at hy
  have hba := r.la
  have ha2 : ba < w.heap.size + 1 := by omega
  have ha3 : ba ≠ w.heap.size := by omega
  have e1 : IntKind.i64.wrap (((N + 1 : Nat) : Int) - 1) = (N : Int) := by rw [show ((N + 1 : Nat) : Int) - 1 = (N : Int) by omega]; exact IntWalk.i64_in _ (by omega)
  have hq1 : (N : Int) < (N : Int) + 1 := by omega
  have hq2 : (0 : Int) < (N : Int) + 1 := by omega
  have x0 := r.ca 0 (by omega)
  rw [Nat.add_zero] at x0
  have xn := r.ca N (by omega)
  have HT := Lib.hid (fun x w' (he : Ext w w') => rat_any (c := c) (e := e) k (r.ext he) x)
  have o3 := k.leX (i := 0) (j := N) (by omega) (by omega)
  have b0 := k.bX 0 (by omega)
  have bN := k.bX N (by omega)
  have HB := Lib.hid (show -1073741824 ≤ X 0 ∧ X N ≤ 1073741824 by omega)
  have HL : Hid (y ≤ atv (N + 1) X Y (X N)) := by
    show y ≤ atv (N + 1) X Y (X N)
    rw [atv_hi k (by rw [Nat.add_sub_cancel]; exact Int.le_refl _), Nat.add_sub_cancel]; exact hy
  have K := Lib.hid k
  have HO := Lib.hid o3
  clear k r hy b0 bN o3
  go_enter Try.func22, Try.ntmps22
  go_wp2_with fail
  go_quiet (fail)
  go_wp2_with fail
  go_loopw [5, 6] (fun s t wr => Ext (w.alloc (.cells #[.slice (some ⟨ba, oa, none⟩) (N + 1) c, .slice (some ⟨bb, ob, none⟩) (N + 1) e] 24)) wr ∧ ∃ lo hi : Int, s = I lo ∧ t = I hi ∧ Hid (X 0 ≤ lo ∧ lo ≤ hi ∧ hi ≤ X N) ∧ Hid ((∀ x, X 0 ≤ x → x < lo → atv (N + 1) X Y x < y) ∧ y ≤ atv (N + 1) X Y hi)) (fun s t _ => (intOf t - intOf s).toNat)
  case atStart => exact ⟨(by repeat (first | exact Ext.refl _ | assumption | exact Ext.alloc _ _ | refine Ext.trans ?_ (by assumption) | refine Ext.trans ?_ (Ext.alloc _ _) | refine Ext.trans ?_ (Ext.drewN _ _) | refine Ext.trans ?_ (Ext.drew _))), X 0, X N, rfl, rfl, ⟨Int.le_refl _, HO.out, Int.le_refl _⟩, fun x h1 h2 => by omega, HL.out⟩
  case round =>
    clear x0 xn
    obtain ⟨hb, lo, hi, rfl, rfl, HR, HJ⟩ := hrel
    obtain ⟨hc, hf⟩ := hb.old
    by_cases hlt : lo < hi
    · obtain ⟨d, hd, d1, d2, d3, ⟨d6, d7, d8⟩, d4, d5⟩ : ∃ d : Int, (hi - lo).tdiv 2 = d ∧ (hi - lo) / 2 = d ∧ IntKind.i64.wrap (hi - lo) = hi - lo ∧ IntKind.i64.wrap (lo + d) = lo + d ∧ (wrap64 d = d ∧ wrap64 (lo + d) = lo + d ∧ wrap64 (lo + d + 1) = lo + d + 1) ∧ 2 * d ≤ hi - lo ∧ hi - lo < 2 * d + 2 := by
        have r1 := HR.out
        have r2 := HB.out
        have t := Int.tdiv_eq_ediv_of_nonneg (a := hi - lo) (b := 2) (by omega)
        exact ⟨(hi - lo) / 2, t, rfl, wrap_in (by omega) (by omega), wrap_in (by omega) (by omega), ⟨wrap_id (by omega) (by omega), wrap_id (by omega) (by omega), wrap_id (by omega) (by omega)⟩, by omega, by omega⟩
      have D := Lib.hid (And.intro d4 d5)
      clear d4 d5
      by_cases hy : y ≤ atv (N + 1) X Y (lo + d)
      · go_wp2_with (go_at_call 20; (refine (HT.out _ _ ((Ext.alloc _ _).trans hb)).mono ?_); rintro e2 w2 ⟨rfl, hb2⟩; replace hb := Ext.trans hb hb2; clear hb2)
        go_roundw
        case rel => exact ⟨(by repeat (first | exact Ext.refl _ | assumption | exact Ext.alloc _ _ | refine Ext.trans ?_ (by assumption) | refine Ext.trans ?_ (Ext.alloc _ _) | refine Ext.trans ?_ (Ext.drewN _ _) | refine Ext.trans ?_ (Ext.drew _))), lo, lo + d, rfl, rfl, ⟨by have := HR.out; omega, by have := D.out; omega, by have := HR.out; have := D.out; omega⟩, HJ.out.1, hy⟩
        case measure => have := D.out; simp [intOf]; omega
      · have HY := Lib.hid hy
        have hy2 : decide (y ≤ atv (N + 1) X Y (lo + d)) = false := by simpa using hy
        have e6 : IntKind.i64.wrap (lo + d + 1) = lo + d + 1 := by have := HR.out; have := HB.out; have := D.out; exact wrap_in (by omega) (by omega)
        go_wp2_with (go_at_call 20; (refine (HT.out _ _ ((Ext.alloc _ _).trans hb)).mono ?_); rintro e2 w2 ⟨rfl, hb2⟩; replace hb := Ext.trans hb hb2; clear hb2)
        go_roundw
        case rel => exact ⟨(by repeat (first | exact Ext.refl _ | assumption | exact Ext.alloc _ _ | refine Ext.trans ?_ (by assumption) | refine Ext.trans ?_ (Ext.alloc _ _) | refine Ext.trans ?_ (Ext.drewN _ _) | refine Ext.trans ?_ (Ext.drew _))), lo + d + 1, hi, rfl, rfl, ⟨by have := HR.out; have := D.out; omega, by have := HR.out; have := D.out; omega, HR.out.2.2⟩, fun x h1 h2 => by
          have := atv_mono K.out (x := x) (y := lo + d) (by omega)
          have := HY.out; omega, HJ.out.2⟩
        case measure => have := D.out; simp [intOf]; omega
    · have : hi = lo := by have := HR.out; omega
      subst this
      go_wp2_with fail
      go_ret
      exact ⟨_, rfl, ⟨HR.out.1, by rw [Nat.add_sub_cancel]; exact HR.out.2.2, HJ.out.2, HJ.out.1⟩, (by repeat (first | exact Ext.refl _ | assumption | exact Ext.alloc _ _ | refine Ext.trans ?_ (by assumption) | refine Ext.trans ?_ (Ext.alloc _ _) | refine Ext.trans ?_ (Ext.drewN _ _) | refine Ext.trans ?_ (Ext.drew _)))⟩
end Go.Proofs.Ytdcollchhcjaaaa
