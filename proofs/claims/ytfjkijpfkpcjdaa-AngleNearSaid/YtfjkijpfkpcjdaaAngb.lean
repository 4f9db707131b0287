/- Contracts of the functions of package angle and of its reference. -/
import Derived.Test.YtfjkijpfkpcjdaaRows
import Derived.Test.YtfjkijpfkpcjdaaAnga
import Derived.WalkSpells
import Derived.WalkLawsBesides
namespace Go.Proofs.Ytfjkijpfkpcjdaa
open Go.RowKit

/-- An error by its number; 0 is none. -/
def errv (k : Int) : Value := if k = 0 then .nilIface else .iface 51 (I k)
abbrev res2 (r : Int × Int) : Value := .tuple #[I r.1, errv r.2]
abbrev ref2 (r : Int × Int) : Value := .tuple #[I r.1, I r.2]

theorem and16 (x : Int) : bits .and .i64 x 65535 = nrm x := by have := and_mask (x := x) (k := 16) (by decide); exact this

set_option maxHeartbeats 400000 in
theorem norm_any (x : Int) (w : World) : Calls Try.prog 14 #[I x] w fun e w' => e = .returned (I (nrm x)) ∧ Ext w w' := by
  have hm := and16 x
  go_enter Try.func14, Try.ntmps14
  go_wp2
  go_ret
  exact ⟨rfl, Ext.refl _⟩

set_option maxHeartbeats 400000 in
theorem rnorm_any (x : Int) (w : World) : Calls Try.prog 15 #[I x] w fun e w' => e = .returned (I (nrm x)) ∧ Ext w w' := by
  obtain ⟨h1, h2⟩ := tmod_bd x
  have H := Lib.hid (tmod_norm x)
  go_enter Try.func15, Try.ntmps15
  go_wp2
  go_ret
  exact ⟨ret_int H.out, Ext.refl _⟩

set_option maxHeartbeats 400000 in
theorem diff_any (a b : Int) (w : World) : Calls Try.prog 16 #[I a, I b] w fun e w' => e = .returned (I (dff a b)) ∧ Ext w w' := by
  have H : Hid (nrm (wrap64 (wrap64 (a - b) + 32768)) - 32768 = dff a b) := by show nrm (wrap64 (wrap64 (a - b) + 32768)) - 32768 = dff a b; rw [nrm_wrap]; exact nrm_dff a b
  obtain ⟨h1, h2⟩ := nrm_bd (wrap64 (wrap64 (a - b) + 32768))
  go_enter Try.func16, Try.ntmps16
  go_wp2_with (first | (go_at_call 14; refine (norm_any _ _).mono ?_; rintro e w1 ⟨rfl, hb1⟩; (first | replace hb := Ext.trans hb hb1 | replace hb := Ext.trans (Ext.trans hb (Ext.drewN _ _)) hb1 | replace hb := Ext.trans (Ext.trans hb (Ext.alloc _ _)) hb1 | have hb := hb1); clear hb1; obtain ⟨hc1, hf1⟩ := hb.old))
  go_ret
  exact ⟨ret_int H.out, (by repeat (first | exact Ext.refl _ | assumption | exact Ext.alloc _ _ | refine Ext.trans ?_ (by assumption) | refine Ext.trans ?_ (Ext.alloc _ _) | refine Ext.trans ?_ (Ext.drewN _ _) | refine Ext.trans ?_ (Ext.drew _)))⟩

set_option maxHeartbeats 400000 in
theorem rdiff_any (a b : Int) (w : World) : Calls Try.prog 17 #[I a, I b] w fun e w' => e = .returned (I (dff a b)) ∧ Ext w w' := by
  have H := Lib.hid (dff_ref a b)
  obtain ⟨h1, h2⟩ := nrm_bd a
  obtain ⟨h3, h4⟩ := nrm_bd b
  go_enter Try.func17, Try.ntmps17
  go_wp2_with (first | (go_at_call 15; refine (rnorm_any _ _).mono ?_; rintro e w1 ⟨rfl, hb1⟩; (first | replace hb := Ext.trans hb hb1 | replace hb := Ext.trans (Ext.trans hb (Ext.drewN _ _)) hb1 | replace hb := Ext.trans (Ext.trans hb (Ext.alloc _ _)) hb1 | have hb := hb1); clear hb1; obtain ⟨hc1, hf1⟩ := hb.old))
  go_ret
  exact ⟨ret_int H.out, (by repeat (first | exact Ext.refl _ | assumption | exact Ext.alloc _ _ | refine Ext.trans ?_ (by assumption) | refine Ext.trans ?_ (Ext.alloc _ _) | refine Ext.trans ?_ (Ext.drewN _ _) | refine Ext.trans ?_ (Ext.drew _)))⟩

theorem dst_neg {a b : Int} (h : dff a b < -dff a b) : dst a b = -dff a b := by unfold dst ab; rw [if_pos (by omega)]
theorem dst_pos {a b : Int} (h : ¬ dff a b < -dff a b) : dst a b = dff a b := by unfold dst ab; rw [if_neg (by omega)]

set_option maxHeartbeats 400000 in
theorem dist_any (a b : Int) (w : World) : Calls Try.prog 18 #[I a, I b] w fun e w' => e = .returned (I (dst a b)) ∧ Ext w w' := by
  obtain ⟨h1, h2⟩ := dff_bd a b
  by_cases h : dff a b < -dff a b
  · have H := Lib.hid (dst_neg h)
    go_enter Try.func18, Try.ntmps18
    go_wp2_with (first | (go_at_call 16; refine (diff_any _ _ _).mono ?_; rintro e w1 ⟨rfl, hb1⟩; (first | replace hb := Ext.trans hb hb1 | replace hb := Ext.trans (Ext.trans hb (Ext.drewN _ _)) hb1 | replace hb := Ext.trans (Ext.trans hb (Ext.alloc _ _)) hb1 | have hb := hb1); clear hb1; obtain ⟨hc1, hf1⟩ := hb.old))
    go_ret
    exact ⟨by rw [H.out]; rfl, (by repeat (first | exact Ext.refl _ | assumption | exact Ext.alloc _ _ | refine Ext.trans ?_ (by assumption) | refine Ext.trans ?_ (Ext.alloc _ _) | refine Ext.trans ?_ (Ext.drewN _ _) | refine Ext.trans ?_ (Ext.drew _)))⟩
  · have H := Lib.hid (dst_pos h)
    go_enter Try.func18, Try.ntmps18
    go_wp2_with (first | (go_at_call 16; refine (diff_any _ _ _).mono ?_; rintro e w1 ⟨rfl, hb1⟩; (first | replace hb := Ext.trans hb hb1 | replace hb := Ext.trans (Ext.trans hb (Ext.drewN _ _)) hb1 | replace hb := Ext.trans (Ext.trans hb (Ext.alloc _ _)) hb1 | have hb := hb1); clear hb1; obtain ⟨hc1, hf1⟩ := hb.old))
    go_ret
    exact ⟨by rw [H.out]; rfl, (by repeat (first | exact Ext.refl _ | assumption | exact Ext.alloc _ _ | refine Ext.trans ?_ (by assumption) | refine Ext.trans ?_ (Ext.alloc _ _) | refine Ext.trans ?_ (Ext.drewN _ _) | refine Ext.trans ?_ (Ext.drew _)))⟩

set_option maxHeartbeats 400000 in
theorem rdist_any (a b : Int) (w : World) : Calls Try.prog 19 #[I a, I b] w fun e w' => e = .returned (I (dst a b)) ∧ Ext w w' := by
  obtain ⟨h1, h2⟩ := dff_bd a b
  by_cases h : dff a b < -dff a b
  · have H := Lib.hid (dst_neg h)
    go_enter Try.func19, Try.ntmps19
    go_wp2_with (first | (go_at_call 17; refine (rdiff_any _ _ _).mono ?_; rintro e w1 ⟨rfl, hb1⟩; (first | replace hb := Ext.trans hb hb1 | replace hb := Ext.trans (Ext.trans hb (Ext.drewN _ _)) hb1 | replace hb := Ext.trans (Ext.trans hb (Ext.alloc _ _)) hb1 | have hb := hb1); clear hb1; obtain ⟨hc1, hf1⟩ := hb.old))
    go_ret
    exact ⟨by rw [H.out]; rfl, (by repeat (first | exact Ext.refl _ | assumption | exact Ext.alloc _ _ | refine Ext.trans ?_ (by assumption) | refine Ext.trans ?_ (Ext.alloc _ _) | refine Ext.trans ?_ (Ext.drewN _ _) | refine Ext.trans ?_ (Ext.drew _)))⟩
  · have H := Lib.hid (dst_pos h)
    go_enter Try.func19, Try.ntmps19
    go_wp2_with (first | (go_at_call 17; refine (rdiff_any _ _ _).mono ?_; rintro e w1 ⟨rfl, hb1⟩; (first | replace hb := Ext.trans hb hb1 | replace hb := Ext.trans (Ext.trans hb (Ext.drewN _ _)) hb1 | replace hb := Ext.trans (Ext.trans hb (Ext.alloc _ _)) hb1 | have hb := hb1); clear hb1; obtain ⟨hc1, hf1⟩ := hb.old))
    go_ret
    exact ⟨by rw [H.out]; rfl, (by repeat (first | exact Ext.refl _ | assumption | exact Ext.alloc _ _ | refine Ext.trans ?_ (by assumption) | refine Ext.trans ?_ (Ext.alloc _ _) | refine Ext.trans ?_ (Ext.drewN _ _) | refine Ext.trans ?_ (Ext.drew _)))⟩

set_option maxHeartbeats 400000 in
theorem within_any (a f t : Int) (w : World) : Calls Try.prog 22 #[I a, I f, I t] w fun e w' => e = .returned (.bool (wth a f t)) ∧ Ext w w' := by
  have H1 := Lib.hid (nrm_wrap (a - f))
  have H2 := Lib.hid (nrm_wrap (t - f))
  go_enter Try.func22, Try.ntmps22
  go_wp2_with (first | (go_at_call 14; refine (norm_any _ _).mono ?_; rintro e w1 ⟨rfl, hb1⟩; (first | replace hb := Ext.trans hb hb1 | replace hb := Ext.trans (Ext.trans hb (Ext.drewN _ _)) hb1 | replace hb := Ext.trans (Ext.trans hb (Ext.alloc _ _)) hb1 | have hb := hb1); clear hb1; obtain ⟨hc1, hf1⟩ := hb.old))
  go_ret
  exact ⟨by rw [H1.out, H2.out]; rfl, (by repeat (first | exact Ext.refl _ | assumption | exact Ext.alloc _ _ | refine Ext.trans ?_ (by assumption) | refine Ext.trans ?_ (Ext.alloc _ _) | refine Ext.trans ?_ (Ext.drewN _ _) | refine Ext.trans ?_ (Ext.drew _)))⟩

set_option maxHeartbeats 400000 in
theorem rwithin_any (a f t : Int) (w : World) : Calls Try.prog 23 #[I a, I f, I t] w fun e w' => e = .returned (.bool (wth a f t)) ∧ Ext w w' := by
  have H1 := Lib.hid (wth_ref a f)
  have H2 := Lib.hid (wth_ref t f)
  obtain ⟨h1, h2⟩ := nrm_bd a
  obtain ⟨h3, h4⟩ := nrm_bd f
  obtain ⟨h5, h6⟩ := nrm_bd t
  go_enter Try.func23, Try.ntmps23
  go_wp2_with (first | (go_at_call 15; refine (rnorm_any _ _).mono ?_; rintro e w1 ⟨rfl, hb1⟩; (first | replace hb := Ext.trans hb hb1 | replace hb := Ext.trans (Ext.trans hb (Ext.drewN _ _)) hb1 | replace hb := Ext.trans (Ext.trans hb (Ext.alloc _ _)) hb1 | have hb := hb1); clear hb1; obtain ⟨hc1, hf1⟩ := hb.old))
  go_ret
  exact ⟨by rw [H1.out, H2.out]; rfl, (by repeat (first | exact Ext.refl _ | assumption | exact Ext.alloc _ _ | refine Ext.trans ?_ (by assumption) | refine Ext.trans ?_ (Ext.alloc _ _) | refine Ext.trans ?_ (Ext.drewN _ _) | refine Ext.trans ?_ (Ext.drew _)))⟩

set_option maxHeartbeats 400000 in
theorem sector_any (a : Int) (w : World) : Calls Try.prog 20 #[I a] w fun e w' => e = .returned (I (sct a)) ∧ Ext w w' := by
  obtain ⟨h1, h2⟩ := nrm_bd a
  go_enter Try.func20, Try.ntmps20
  go_wp2_with (first | (go_at_call 14; refine (norm_any _ _).mono ?_; rintro e w1 ⟨rfl, hb1⟩; (first | replace hb := Ext.trans hb hb1 | replace hb := Ext.trans (Ext.trans hb (Ext.drewN _ _)) hb1 | replace hb := Ext.trans (Ext.trans hb (Ext.alloc _ _)) hb1 | have hb := hb1); clear hb1; obtain ⟨hc1, hf1⟩ := hb.old))
  go_ret
  exact ⟨rfl, (by repeat (first | exact Ext.refl _ | assumption | exact Ext.alloc _ _ | refine Ext.trans ?_ (by assumption) | refine Ext.trans ?_ (Ext.alloc _ _) | refine Ext.trans ?_ (Ext.drewN _ _) | refine Ext.trans ?_ (Ext.drew _)))⟩

set_option maxHeartbeats 400000 in
theorem rsector_any (a : Int) (w : World) : Calls Try.prog 21 #[I a] w fun e w' => e = .returned (I (sct a)) ∧ Ext w w' := by
  obtain ⟨h1, h2⟩ := nrm_bd a
  go_enter Try.func21, Try.ntmps21
  go_wp2_with (first | (go_at_call 15; refine (rnorm_any _ _).mono ?_; rintro e w1 ⟨rfl, hb1⟩; (first | replace hb := Ext.trans hb hb1 | replace hb := Ext.trans (Ext.trans hb (Ext.drewN _ _)) hb1 | replace hb := Ext.trans (Ext.trans hb (Ext.alloc _ _)) hb1 | have hb := hb1); clear hb1; obtain ⟨hc1, hf1⟩ := hb.old))
  go_ret
  exact ⟨rfl, (by repeat (first | exact Ext.refl _ | assumption | exact Ext.alloc _ _ | refine Ext.trans ?_ (by assumption) | refine Ext.trans ?_ (Ext.alloc _ _) | refine Ext.trans ?_ (Ext.drewN _ _) | refine Ext.trans ?_ (Ext.drew _)))⟩

theorem ifdt (P : Prop) [Decidable P] (h : P) : decide P = true := by simpa using h

set_option maxHeartbeats 400000 in
theorem isPos_any (p : Int) (w : World) : Calls Try.prog 34 #[I p] w fun e w' => e = .returned (.bool (decide (isP p))) ∧ Ext w w' := by
  by_cases h1 : -72057594037927936 ≤ p
  · by_cases h2 : p ≤ 72057594037927936
    · have H : Hid (decide (isP p) = true) := by show decide (isP p) = true; exact decide_eq_true ⟨h1, h2⟩
      go_enter Try.func34, Try.ntmps34
      go_wp2
      go_ret
      exact ⟨by rw [H.out]; rfl, Ext.refl _⟩
    · have H : Hid (decide (isP p) = false) := by show decide (isP p) = false; exact decide_eq_false (fun h => h2 h.2)
      go_enter Try.func34, Try.ntmps34
      go_wp2
      go_ret
      exact ⟨by rw [H.out]; rfl, Ext.refl _⟩
  · have H : Hid (decide (isP p) = false) := by show decide (isP p) = false; exact decide_eq_false (fun h => h1 h.1)
    go_enter Try.func34, Try.ntmps34
    go_wp2
    go_ret
    exact ⟨by rw [H.out]; rfl, Ext.refl _⟩

theorem isPos_is (p : Int) (v : Bool) (w : World) (h : decide (isP p) = v) : Calls Try.prog 34 #[I p] w fun e w' => e = .returned (.bool v) ∧ Ext w w' := by
  subst h; exact isPos_any p w

set_option maxHeartbeats 400000 in
theorem num_err (k : Int) (w : World) :
    Calls Try.prog 28 #[.iface 51 (I k)] w fun e w' => e = .returned (I k) ∧ Ext w w' := by
  have ta := run_assert_int (P := Try.prog) (xT := 31) (v := I k) (w := w) Try.underlying51
  go_enter Try.func28, Try.ntmps28
  go_wp2
  go_ret
  exact ⟨rfl, Ext.refl _⟩

set_option maxHeartbeats 400000 in
theorem num_nil (w : World) :
    Calls Try.prog 28 #[.nilIface] w fun e w' => e = .returned (I 0) ∧ Ext w w' := by
  go_enter Try.func28, Try.ntmps28
  go_wp2
  go_ret
  exact ⟨rfl, Ext.refl _⟩

theorem num_any (k : Int) (w : World) :
    Calls Try.prog 28 #[errv k] w fun e w' => e = .returned (I k) ∧ Ext w w' := by
  by_cases h : k = 0
  · subst h; exact num_nil w
  · have : errv k = .iface 51 (I k) := by simp [errv, h]
    rw [this]; exact num_err k w

/-- n, moved into its limits. -/
def clp (n lo hi : Int) : Int := if n < lo then lo else if hi < n then hi else n
theorem clp_lo {n lo hi : Int} (h : n < lo) : clp n lo hi = lo := by unfold clp; rw [if_pos h]
theorem clp_hi {n lo hi : Int} (h : ¬ n < lo) (h' : hi < n) : clp n lo hi = hi := by unfold clp; rw [if_neg h, if_pos h']
theorem clp_in {n lo hi : Int} (h : ¬ n < lo) (h' : ¬ hi < n) : clp n lo hi = n := by unfold clp; rw [if_neg h, if_neg h']
theorem clp_bd (n lo hi : Int) (h : lo ≤ hi) : lo ≤ clp n lo hi ∧ clp n lo hi ≤ hi := by unfold clp; split <;> (try split) <;> omega

set_option maxHeartbeats 400000 in
theorem clip_any (n lo hi : Int) (w : World) (hl : lo < hi) : Calls Try.prog 33 #[I n, I lo, I hi] w fun e w' => e = .returned (I (clp n lo hi)) ∧ Ext w w' := by
  by_cases h1 : n < lo
  · have H := Lib.hid (clp_lo (hi := hi) h1)
    have h2 : n < hi := by omega
    go_enter Try.func33, Try.ntmps33
    go_wp2
    go_ret
    exact ⟨by rw [H.out]; first | rfl | omega, Ext.refl _⟩
  · by_cases h2 : hi < n
    · have H := Lib.hid (clp_hi h1 h2)
      have h3 : ¬ n < hi := by omega
      have h4 : lo < hi := hl
      go_enter Try.func33, Try.ntmps33
      go_wp2
      go_ret
      exact ⟨by rw [H.out]; first | rfl | omega, Ext.refl _⟩
    · have H := Lib.hid (clp_in h1 h2)
      by_cases h3 : n < hi
      · by_cases h4 : lo < n
        · go_enter Try.func33, Try.ntmps33
          go_wp2
          go_ret
          exact ⟨by rw [H.out]; first | rfl | omega, Ext.refl _⟩
        · obtain rfl : n = lo := by omega
          go_enter Try.func33, Try.ntmps33
          go_wp2
          go_ret
          exact ⟨by rw [H.out]; first | rfl | omega, Ext.refl _⟩
      · obtain rfl : n = hi := by omega
        have h4 : lo < n := hl
        go_enter Try.func33, Try.ntmps33
        go_wp2
        go_ret
        exact ⟨by rw [H.out]; first | rfl | omega, Ext.refl _⟩

end Go.Proofs.Ytfjkijpfkpcjdaa
