/- Curves: what the laws begin with. -/
import Derived.Test.YtdcollchhcjaaaaCrvj
namespace Go.Proofs.Ytdcollchhcjaaaa
open Go.RowKit

set_option maxHeartbeats 400000 in
theorem num_err (k : Int) (w : World) :
    Calls Try.prog 16 #[.iface 51 (I k)] w fun e w' => e = .returned (I k) ∧ Ext w w' := by
  have ta := run_assert_int (P := Try.prog) (xT := 29) (v := I k) (w := w) Try.underlying51
  go_enter Try.func16, Try.ntmps16
  go_wp2
  go_ret
  exact ⟨rfl, Ext.refl _⟩

set_option maxHeartbeats 400000 in
theorem num_nil (w : World) :
    Calls Try.prog 16 #[.nilIface] w fun e w' => e = .returned (I 0) ∧ Ext w w' := by
  go_enter Try.func16, Try.ntmps16
  go_wp2
  go_ret
  exact ⟨rfl, Ext.refl _⟩

theorem num_any (k : Int) (w : World) :
    Calls Try.prog 16 #[errv k] w fun e w' => e = .returned (I k) ∧ Ext w w' := by
  by_cases h : k = 0
  · subst h; exact num_nil w
  · rw [errv_n h]; exact num_err k w

/-- n, moved into its limits. -/
def clp (n lo hi : Int) : Int := if n < lo then lo else if hi < n then hi else n
theorem clp_bd (n lo hi : Int) (h : lo ≤ hi) : lo ≤ clp n lo hi ∧ clp n lo hi ≤ hi := by unfold clp; split <;> (try split) <;> omega
theorem clp_lo {n lo hi : Int} (h : n < lo) : clp n lo hi = lo := by unfold clp; rw [if_pos h]
theorem clp_hi {n lo hi : Int} (h : ¬ n < lo) (h' : hi < n) : clp n lo hi = hi := by unfold clp; rw [if_neg h, if_pos h']
theorem clp_in {n lo hi : Int} (h : ¬ n < lo) (h' : ¬ hi < n) : clp n lo hi = n := by unfold clp; rw [if_neg h, if_neg h']

set_option maxHeartbeats 400000 in
theorem clip_any (n lo hi : Int) (w : World) (hl : lo < hi) : Calls Try.prog 26 #[I n, I lo, I hi] w fun e w' => e = .returned (I (clp n lo hi)) ∧ Ext w w' := by
  by_cases h1 : n < lo
  · have H := Lib.hid (clp_lo (hi := hi) h1)
    have h2 : n < hi := by omega
    go_enter Try.func26, Try.ntmps26
    go_wp2
    go_ret
    exact ⟨by rw [H.out]; first | rfl | omega, Ext.refl _⟩
  · by_cases h2 : hi < n
    · have H := Lib.hid (clp_hi h1 h2)
      have h3 : ¬ n < hi := by omega
      have h4 : lo < hi := hl
      go_enter Try.func26, Try.ntmps26
      go_wp2
      go_ret
      exact ⟨by rw [H.out]; first | rfl | omega, Ext.refl _⟩
    · have H := Lib.hid (clp_in h1 h2)
      by_cases h3 : n < hi
      · by_cases h4 : lo < n
        · go_enter Try.func26, Try.ntmps26
          go_wp2
          go_ret
          exact ⟨by rw [H.out]; first | rfl | omega, Ext.refl _⟩
        · have h5 : lo = n := by omega
          subst h5
          go_enter Try.func26, Try.ntmps26
          go_wp2
          go_ret
          exact ⟨by rw [H.out]; first | rfl | omega, Ext.refl _⟩
      · have h5 : hi = n := by omega
        subst h5
        have h4 : lo < hi := hl
        go_enter Try.func26, Try.ntmps26
        go_wp2
        go_ret
        exact ⟨by rw [H.out]; first | rfl | omega, Ext.refl _⟩

def nr (x : Int) : Int := clp x (-2147483648) 2147483648
theorem nr_bd (x : Int) : -2147483648 ≤ nr x ∧ nr x ≤ 2147483648 := clp_bd _ _ _ (by decide)
set_option maxHeartbeats 400000 in
theorem near_any (x : Int) (w : World) : Calls Try.prog 25 #[I x] w fun e w' => e = .returned (I (nr x)) ∧ Ext w w' := by
  have hb := Ext.refl w
  go_enter Try.func25, Try.ntmps25
  go_wp2_with ((go_at_call 26; refine (clip_any _ _ _ _ (by decide)).mono ?_; rintro e w1 ⟨rfl, hb1⟩; (first | replace hb := Ext.trans hb hb1 | replace hb := Ext.trans (Ext.trans hb (Ext.drewN _ _)) hb1 | replace hb := Ext.trans (Ext.trans hb (Ext.alloc _ _)) hb1 | have hb := hb1); clear hb1; obtain ⟨hc1, hf1⟩ := hb.old))
  go_ret
  exact ⟨rfl, (by repeat (first | exact Ext.refl _ | assumption | exact Ext.alloc _ _ | refine Ext.trans ?_ (by assumption) | refine Ext.trans ?_ (Ext.alloc _ _) | refine Ext.trans ?_ (Ext.drewN _ _) | refine Ext.trans ?_ (Ext.drew _)))⟩

set_option maxHeartbeats 400000 in
theorem large_f (A B : Option Addr) (n c m e : Nat) (w : World) (hn : n ≤ 100) (hm : m ≤ 100) : Calls Try.prog 15 #[cv A n c B m e] w fun e' w' => e' = .returned (.bool false) ∧ Ext w w' := by
  have h1 : ¬ (100 : Int) < (n : Int) := by omega
  have h2 : ¬ (100 : Int) < (m : Int) := by omega
  go_enter Try.func15, Try.ntmps15
  go_wp2
  go_ret
  exact ⟨rfl, Ext.alloc _ _⟩
set_option maxHeartbeats 400000 in
theorem large_t (A B : Option Addr) (n c m e : Nat) (w : World) (h : 100 < n ∨ 100 < m) (hn : n ≤ maxLen) (hm : m ≤ maxLen) : Calls Try.prog 15 #[cv A n c B m e] w fun e' w' => e' = .returned (.bool true) ∧ Ext w w' := by
  unfold maxLen at hn hm
  by_cases h0 : 100 < n
  · have h1 : (100 : Int) < (n : Int) := by omega
    go_enter Try.func15, Try.ntmps15
    go_wp2
    go_ret
    exact ⟨rfl, Ext.alloc _ _⟩
  · have h1 : ¬ (100 : Int) < (n : Int) := by omega
    have h2 : (100 : Int) < (m : Int) := by omega
    go_enter Try.func15, Try.ntmps15
    go_wp2
    go_ret
    exact ⟨rfl, Ext.alloc _ _⟩

def exX (k : Nat) : Int := if k = 0 then -10 else if k = 1 then 0 else 4
def exY (k : Nat) : Int := if k = 0 then -5 else if k = 1 then 0 else 6
theorem ex_chk : chk 3 3 exX exY = 0 := by decide
theorem ex_crv : Crv 3 exX exY := (crv_of ex_chk).2
theorem ex_at : atv 3 exX exY 2 = 3 := by
  have := (isval_seg ex_crv (i := 1) (x := 2) (by decide) (by decide) (by decide)).tru
  rw [← this]; decide
theorem ex_at1 : atv 3 exX exY 1 = 1 := by
  have := (isval_seg ex_crv (i := 1) (x := 1) (by decide) (by decide) (by decide)).tru
  rw [← this]; decide
theorem ex_inv {v : Int} (h : IsInv 3 exX exY 1 v) : v = 1 := by
  refine inv_uniq h ⟨by decide, by decide, by rw [ex_at1]; decide, fun x _ hx => ?_⟩
  have h1 := atv_mono ex_crv (x := x) (y := 0) (by omega)
  have h2 : atv 3 exX exY (exX 1) = exY 1 := atv_pt ex_crv (by decide)
  have h3 : atv 3 exX exY 0 = 0 := h2
  omega

set_option maxHeartbeats 400000 in
theorem example_any (w : World) : Calls Try.prog 34 #[] w fun e w' => ∃ ba bb : Nat, e = .returned (cw ba 0 3 bb 0 3 3) ∧ Cur w' ba 0 bb 0 3 exX exY ∧ Ext w w' := by
  go_enter Try.func34, Try.ntmps34
  go_wp2
  refine bodyPost_ret (v := cw (w.heap.size + 1) 0 3 (w.heap.size + 1 + 1) 0 3 3) (by simp [results, Try.results34, go_sem]) rfl ⟨w.heap.size + 1, w.heap.size + 1 + 1, rfl, ⟨by simp, by simp, fun i hi => ?_, fun i hi => ?_⟩, ((Ext.alloc _ _).trans (Ext.alloc _ _)).trans (Ext.alloc _ _)⟩
  · match i, hi with
    | 0, _ => go_simp; rfl
    | 1, _ => go_simp; rfl
    | 2, _ => go_simp; rfl
  · match i, hi with
    | 0, _ => go_simp; rfl
    | 1, _ => go_simp; rfl
    | 2, _ => go_simp; rfl

theorem exAt {w : World} {ba bb : Nat} (r : Cur w ba 0 bb 0 3 exX exY) : Calls Try.prog 19 #[cw ba 0 3 bb 0 3 3, I 2] w fun e' w' => e' = .returned (.tuple #[I 3, .nilIface]) ∧ Ext w w' :=
  (at_ok ex_chk r 2 (by decide)).mono fun _ _ ⟨h1, h2⟩ => ⟨by rw [h1, ex_at], h2⟩
theorem exInv {w : World} {ba bb : Nat} (r : Cur w ba 0 bb 0 3 exX exY) : Calls Try.prog 21 #[cw ba 0 3 bb 0 3 3, I 1] w fun e' w' => e' = .returned (.tuple #[I 1, .nilIface]) ∧ Ext w w' :=
  (inverse_ok ex_chk r 1 (by decide)).mono fun _ _ ⟨v, h1, h3, h2⟩ => ⟨by rw [h1, ex_inv h3.out], h2⟩

set_option maxHeartbeats 400000 in
theorem awake_any (w : World) : Calls Try.prog 14 #[] w fun e w' => e = .returned (.bool true) ∧ Ext w w' := by
  have hb := Ext.refl w
  go_enter Try.func14, Try.ntmps14
  go_wp2_with (first
    | (go_at_call 34; (with_reducible refine (example_any _).mono ?_); rintro e1 w1 ⟨ba, bb, rfl, r, hb1⟩; have R := Lib.hid r; clear r; replace hb := Ext.trans hb hb1; clear hb1)
    | (go_at_call 19; (with_reducible refine (exAt R.out).mono ?_); rintro e1 w1 ⟨rfl, hb1⟩; replace hb := Ext.trans hb hb1; clear hb1)
    | (go_at_call 21; (with_reducible refine (exInv R.out).mono ?_); rintro e1 w1 ⟨rfl, hb1⟩; replace hb := Ext.trans hb hb1; clear hb1))
  go_ret
  exact ⟨rfl, hb⟩
end Go.Proofs.Ytdcollchhcjaaaa
