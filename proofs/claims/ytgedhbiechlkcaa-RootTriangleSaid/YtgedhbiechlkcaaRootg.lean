/- The laws of package root: what they call; roots, lengths, rests, scales. -/
import Derived.Test.YtgedhbiechlkcaaRoote
import Derived.Test.YtgedhbiechlkcaaRootf
namespace Go.Proofs.Ytgedhbiechlkcaa
open Go.RowKit

theorem num_e (w : World) : Calls Try.prog 20 #[.iface 50 (I 3)] w fun e w' => e = .returned (I 3) ∧ Ext w w' := by
  have ta := run_assert_int (P := Try.prog) (xT := 26) (v := I 3) (w := w) Try.underlying50
  go_enter Try.func20, Try.ntmps20
  go_wp2
  go_ret
  exact ⟨rfl, Ext.refl _⟩
theorem num_nil (w : World) : Calls Try.prog 20 #[.nilIface] w fun e w' => e = .returned (I 0) ∧ Ext w w' := by
  go_enter Try.func20, Try.ntmps20
  go_wp2
  go_ret
  exact ⟨rfl, Ext.refl _⟩

/-- n, moved into its limits. -/
def clp (n lo hi : Int) : Int := if n < lo then lo else if hi < n then hi else n
theorem clp_bd (n : Int) {lo hi : Int} (h : lo ≤ hi) : lo ≤ clp n lo hi ∧ clp n lo hi ≤ hi := by unfold clp; split <;> (try split) <;> omega
theorem clp_min {n lo hi : Int} (h1 : n < hi) (h2 : lo < n) : clp n lo hi = n := by unfold clp; rw [if_neg (by omega), if_neg (by omega)]
theorem clp_lo {n lo hi : Int} (h1 : n < hi) (h2 : ¬ lo < n) : clp n lo hi = lo := by unfold clp; split <;> (try split) <;> omega
theorem clp_hi {n lo hi : Int} (h1 : ¬ n < hi) (h2 : lo < hi) : clp n lo hi = hi := by unfold clp; split <;> (try split) <;> omega
theorem clp_pt {n lo hi : Int} (h : lo ≤ hi) (h1 : ¬ n < hi) (h2 : ¬ lo < hi) : clp n lo hi = lo := by unfold clp; split <;> (try split) <;> omega

set_option maxHeartbeats 400000 in
theorem clip_any (n lo hi : Int) (w : World) (h : lo ≤ hi) : Calls Try.prog 27 #[I n, I lo, I hi] w fun e w' => e = .returned (I (clp n lo hi)) ∧ Ext w w' := by
  by_cases h1 : n < hi
  · by_cases h2 : lo < n
    · have H := Lib.hid (clp_min h1 h2)
      go_enter Try.func27, Try.ntmps27
      go_wp2
      all_goals (go_ret; exact ⟨by rw [H.out]; exact ret_int (by omega), Ext.refl _⟩)
    · have H := Lib.hid (clp_lo h1 h2)
      go_enter Try.func27, Try.ntmps27
      go_wp2
      all_goals (go_ret; exact ⟨by rw [H.out]; exact ret_int (by omega), Ext.refl _⟩)
  · by_cases h2 : lo < hi
    · have H := Lib.hid (clp_hi h1 h2)
      go_enter Try.func27, Try.ntmps27
      go_wp2
      all_goals (go_ret; exact ⟨by rw [H.out]; exact ret_int (by omega), Ext.refl _⟩)
    · have H := Lib.hid (clp_pt h h1 h2)
      go_enter Try.func27, Try.ntmps27
      go_wp2
      all_goals (go_ret; exact ⟨by rw [H.out]; exact ret_int (by omega), Ext.refl _⟩)

theorem rt_lit {n r : Int} (h1 : n ≤ 9223372036854775807) (a : 0 ≤ r) (b : r * r ≤ n) (c : n < (r + 1) * (r + 1)) : rt n = r := rt_is h1 ⟨a, b, c⟩
theorem rt99 : rt 99 = 9 := rt_lit (by omega) (by omega) (by omega) (by omega)
theorem up99 : up 99 = 10 := by rw [up_yes (by rw [rt99]; omega), rt99]; rfl
theorem rst135 : rstF 13 5 = (12, 0) := by
  rw [rst_ok ⟨by unfold okS; omega, by unfold okS; omega⟩ (by omega), show (13 : Int) * 13 - 5 * 5 = 144 by decide, rt_lit (n := 144) (r := 12) (by omega) (by omega) (by omega) (by omega)]
theorem sc34 : scF 300 400 100 = (60, 80, true, 0) := by
  rw [sc_out (by rw [wi_ok ⟨by unfold okS; omega, by unfold okS; omega, by unfold okS; omega⟩ (by omega)]; rfl), show (300 : Int) * 300 + 400 * 400 = 250000 by decide,
    up_no (n := 250000) (by rw [rt_lit (n := 250000) (r := 500) (by omega) (by omega) (by omega) (by omega)]; omega), rt_lit (n := 250000) (r := 500) (by omega) (by omega) (by omega) (by omega)]
  rfl
theorem rest_is {m d k r : Int} (h : rstF m d = (k, r)) (w : World) : Calls Try.prog 21 #[I m, I d] w fun e w' => e = .returned (.tuple #[I k, errv r]) ∧ Ext w w' := by
  have := rest_any m d w; rw [h] at this; exact this
theorem scale_is {x y m u v k : Int} {b : Bool} (h : scF x y m = (u, v, b, k)) (w : World) : Calls Try.prog 24 #[I x, I y, I m] w fun e w' => e = .returned (.tuple #[I u, I v, .bool b, errv k]) ∧ Ext w w' := by
  have := scale_any x y m w; rw [h] at this; exact this
theorem sqrt_is {n r : Int} (hn : n ≤ 9223372036854775807) (h : rt n = r) (w : World) : Calls Try.prog 12 #[I n] w fun e w' => e = .returned (I r) ∧ Ext w w' := by
  subst h; exact sqrt_any n w hn
theorem up_is' {n r : Int} (hn : n ≤ 9223372036854775807) (h : up n = r) (w : World) : Calls Try.prog 14 #[I n] w fun e w' => e = .returned (I r) ∧ Ext w w' := by
  subst h; exact up_any n w hn
theorem rest135 (w : World) : Calls Try.prog 21 #[I 13, I 5] w fun e w' => e = .returned (.tuple #[I 12, .nilIface]) ∧ Ext w w' := rest_is rst135 w
theorem scale34 (w : World) : Calls Try.prog 24 #[I 300, I 400, I 100] w fun e w' => e = .returned (.tuple #[I 60, I 80, .bool true, .nilIface]) ∧ Ext w w' := scale_is sc34 w
theorem sqrt99 (w : World) : Calls Try.prog 12 #[I 99] w fun e w' => e = .returned (I 9) ∧ Ext w w' := sqrt_is (by omega) rt99 w
theorem upto99 (w : World) : Calls Try.prog 14 #[I 99] w fun e w' => e = .returned (I 10) ∧ Ext w w' := up_is' (by omega) up99 w

set_option maxRecDepth 100000 in
set_option maxHeartbeats 1000000 in
theorem awake_any (w : World) : Calls Try.prog 11 #[] w fun e w' => e = .returned (.bool true) ∧ Ext w w' := by
  go_enter Try.func11, Try.ntmps11
  go_wp2_with (first
    | (go_at_call 21; refine (rest135 _).mono ?_; rintro e w1 ⟨rfl, hb1⟩; (first | replace hb := Ext.trans hb hb1 | replace hb := Ext.trans (Ext.trans hb (Ext.drewN _ _)) hb1 | replace hb := Ext.trans (Ext.trans hb (Ext.alloc _ _)) hb1 | have hb := hb1); clear hb1; obtain ⟨hc1, hf1⟩ := hb.old)
    | (go_at_call 24; refine (scale34 _).mono ?_; rintro e w1 ⟨rfl, hb1⟩; (first | replace hb := Ext.trans hb hb1 | replace hb := Ext.trans (Ext.trans hb (Ext.drewN _ _)) hb1 | replace hb := Ext.trans (Ext.trans hb (Ext.alloc _ _)) hb1 | have hb := hb1); clear hb1; obtain ⟨hc1, hf1⟩ := hb.old)
    | (go_at_call 12; refine (sqrt99 _).mono ?_; rintro e w1 ⟨rfl, hb1⟩; (first | replace hb := Ext.trans hb hb1 | replace hb := Ext.trans (Ext.trans hb (Ext.drewN _ _)) hb1 | replace hb := Ext.trans (Ext.trans hb (Ext.alloc _ _)) hb1 | have hb := hb1); clear hb1; obtain ⟨hc1, hf1⟩ := hb.old)
    | (go_at_call 14; refine (upto99 _).mono ?_; rintro e w1 ⟨rfl, hb1⟩; (first | replace hb := Ext.trans hb hb1 | replace hb := Ext.trans (Ext.trans hb (Ext.drewN _ _)) hb1 | replace hb := Ext.trans (Ext.trans hb (Ext.alloc _ _)) hb1 | have hb := hb1); clear hb1; obtain ⟨hc1, hf1⟩ := hb.old))
  go_ret
  exact ⟨rfl, (by repeat (first | exact Ext.refl _ | assumption | exact Ext.alloc _ _ | refine Ext.trans ?_ (by assumption) | refine Ext.trans ?_ (Ext.alloc _ _) | refine Ext.trans ?_ (Ext.drewN _ _) | refine Ext.trans ?_ (Ext.drew _)))⟩

set_option maxRecDepth 100000 in
set_option maxHeartbeats 1000000 in
theorem roots_law (n : Int) (w : World) (hn : n ≤ 9223372036854775807) : Calls Try.prog 3 #[I n] w fun e w' => e = .returned (.bool true) ∧ Ext w w' := by
  have H1 := Lib.hid (fun w => sqrt_any n w hn)
  have H2 := Lib.hid (fun w => rsqrt_any n w hn)
  have H3 := Lib.hid (fun w => up_any n w hn)
  have H4 := Lib.hid (fun w => rup_any n w hn)
  generalize rt n = a at *
  generalize up n = b at *
  go_enter Try.func3, Try.ntmps3
  go_wp2_with (first
    | (go_at_call 11; refine (awake_any _).mono ?_; rintro e w1 ⟨rfl, hb1⟩; (first | replace hb := Ext.trans hb hb1 | replace hb := Ext.trans (Ext.trans hb (Ext.drewN _ _)) hb1 | replace hb := Ext.trans (Ext.trans hb (Ext.alloc _ _)) hb1 | have hb := hb1); clear hb1; obtain ⟨hc1, hf1⟩ := hb.old)
    | (go_at_call 12; refine (H1.out _).mono ?_; rintro e w1 ⟨rfl, hb1⟩; (first | replace hb := Ext.trans hb hb1 | replace hb := Ext.trans (Ext.trans hb (Ext.drewN _ _)) hb1 | replace hb := Ext.trans (Ext.trans hb (Ext.alloc _ _)) hb1 | have hb := hb1); clear hb1; obtain ⟨hc1, hf1⟩ := hb.old)
    | (go_at_call 13; refine (H2.out _).mono ?_; rintro e w1 ⟨rfl, hb1⟩; (first | replace hb := Ext.trans hb hb1 | replace hb := Ext.trans (Ext.trans hb (Ext.drewN _ _)) hb1 | replace hb := Ext.trans (Ext.trans hb (Ext.alloc _ _)) hb1 | have hb := hb1); clear hb1; obtain ⟨hc1, hf1⟩ := hb.old)
    | (go_at_call 14; refine (H3.out _).mono ?_; rintro e w1 ⟨rfl, hb1⟩; (first | replace hb := Ext.trans hb hb1 | replace hb := Ext.trans (Ext.trans hb (Ext.drewN _ _)) hb1 | replace hb := Ext.trans (Ext.trans hb (Ext.alloc _ _)) hb1 | have hb := hb1); clear hb1; obtain ⟨hc1, hf1⟩ := hb.old)
    | (go_at_call 15; refine (H4.out _).mono ?_; rintro e w1 ⟨rfl, hb1⟩; (first | replace hb := Ext.trans hb hb1 | replace hb := Ext.trans (Ext.trans hb (Ext.drewN _ _)) hb1 | replace hb := Ext.trans (Ext.trans hb (Ext.alloc _ _)) hb1 | have hb := hb1); clear hb1; obtain ⟨hc1, hf1⟩ := hb.old))
  go_ret
  exact ⟨rfl, (by repeat (first | exact Ext.refl _ | assumption | exact Ext.alloc _ _ | refine Ext.trans ?_ (by assumption) | refine Ext.trans ?_ (Ext.alloc _ _) | refine Ext.trans ?_ (Ext.drewN _ _) | refine Ext.trans ?_ (Ext.drew _)))⟩

theorem len_cases (x y : Int) : (∃ a : Int, lenF x y = (a, 0)) ∨ lenF x y = (0, 3) := by unfold lenF; split; exact .inl ⟨_, rfl⟩; exact .inr rfl
theorem abv_cases (x y : Int) : (∃ a : Int, abvF x y = (a, 0)) ∨ abvF x y = (0, 3) := by unfold abvF; split; exact .inl ⟨_, rfl⟩; exact .inr rfl
theorem rst_cases (x y : Int) : (∃ a : Int, rstF x y = (a, 0)) ∨ rstF x y = (0, 3) := by unfold rstF; split; split; exact .inr rfl; exact .inl ⟨_, rfl⟩; exact .inr rfl
theorem len_is {x y a k : Int} (h : lenF x y = (a, k)) (w : World) : Calls Try.prog 16 #[I x, I y] w fun e w' => e = .returned (.tuple #[I a, errv k]) ∧ Ext w w' := by
  have := length_any x y w; rw [h] at this; exact this
theorem rlen_is {x y a k : Int} (h : lenF x y = (a, k)) (w : World) : Calls Try.prog 18 #[I x, I y] w fun e w' => e = .returned (.tuple #[I a, I k]) ∧ Ext w w' := by
  have := rlength_any x y w; rw [h] at this; exact this
theorem abv_is {x y a k : Int} (h : abvF x y = (a, k)) (w : World) : Calls Try.prog 17 #[I x, I y] w fun e w' => e = .returned (.tuple #[I a, errv k]) ∧ Ext w w' := by
  have := above_any x y w; rw [h] at this; exact this
theorem rabv_is {x y a k : Int} (h : abvF x y = (a, k)) (w : World) : Calls Try.prog 19 #[I x, I y] w fun e w' => e = .returned (.tuple #[I a, I k]) ∧ Ext w w' := by
  have := rabove_any x y w; rw [h] at this; exact this
theorem rrest_is {m d k r : Int} (h : rstF m d = (k, r)) (w : World) : Calls Try.prog 22 #[I m, I d] w fun e w' => e = .returned (.tuple #[I k, I r]) ∧ Ext w w' := by
  have := rrest_any m d w; rw [h] at this; exact this
theorem rscale_is {x y m u v k : Int} {b : Bool} (h : scF x y m = (u, v, b, k)) (w : World) : Calls Try.prog 26 #[I x, I y, I m] w fun e w' => e = .returned (.tuple #[I u, I v, .bool b, I k]) ∧ Ext w w' := by
  have := rscale_any x y m w; rw [h] at this; exact this
theorem num_of {k : Int} (h : k = 0 ∨ k = 3) (w : World) : Calls Try.prog 20 #[errv k] w fun e w' => e = .returned (I k) ∧ Ext w w' := by
  rcases h with rfl | rfl
  · exact num_nil w
  · exact num_e w
theorem len_k (x y : Int) : (lenF x y).2 = 0 ∨ (lenF x y).2 = 3 := by rcases len_cases x y with ⟨a, h⟩ | h <;> rw [h] <;> simp
theorem abv_k (x y : Int) : (abvF x y).2 = 0 ∨ (abvF x y).2 = 3 := by rcases abv_cases x y with ⟨a, h⟩ | h <;> rw [h] <;> simp
theorem rst_k (x y : Int) : (rstF x y).2 = 0 ∨ (rstF x y).2 = 3 := by rcases rst_cases x y with ⟨a, h⟩ | h <;> rw [h] <;> simp
theorem wi_k (x y m : Int) : (wiF x y m).2 = 0 ∨ (wiF x y m).2 = 3 := by rcases wi_cases x y m with ⟨h, _⟩ | ⟨h, _⟩ | h <;> rw [h] <;> simp
theorem sc_k (x y m : Int) : (scF x y m).2.2.2 = 0 ∨ (scF x y m).2.2.2 = 3 := by
  rcases wi_cases x y m with ⟨h, _⟩ | ⟨h, _⟩ | h
  · rw [sc_in h]; simp
  · rw [sc_out h]; simp
  · rw [sc_no h]; simp
theorem wit_is {x y m k : Int} {b : Bool} (h : wiF x y m = (b, k)) (w : World) : Calls Try.prog 23 #[I x, I y, I m] w fun e w' => e = .returned (.tuple #[.bool b, errv k]) ∧ Ext w w' := by
  have := within_any x y m w; rw [h] at this; exact this

set_option maxRecDepth 100000 in
set_option maxHeartbeats 1000000 in
theorem lengths_law (x y : Int) (w : World) : Calls Try.prog 4 #[I x, I y] w fun e w' => e = .returned (.bool true) ∧ Ext w w' := by
  have k1 := len_k x y
  have k2 := abv_k x y
  have H1 := Lib.hid (fun w => length_any x y w)
  have H2 := Lib.hid (fun w => rlength_any x y w)
  have H3 := Lib.hid (fun w => above_any x y w)
  have H4 := Lib.hid (fun w => rabove_any x y w)
  generalize lenF x y = p at *
  generalize abvF x y = q at *
  obtain ⟨a, k⟩ := p
  obtain ⟨b, l⟩ := q
  simp only [res2, ref2] at k1 k2 H1 H2 H3 H4
  have n1 := Lib.hid (fun w => num_of k1 w)
  have n2 := Lib.hid (fun w => num_of k2 w)
  generalize errv k = v1 at *
  generalize errv l = v2 at *
  clear k1 k2
  go_enter Try.func4, Try.ntmps4
  go_wp2_with (first
    | (go_at_call 11; refine (awake_any _).mono ?_; rintro e w1 ⟨rfl, hb1⟩; (first | replace hb := Ext.trans hb hb1 | replace hb := Ext.trans (Ext.trans hb (Ext.drewN _ _)) hb1 | replace hb := Ext.trans (Ext.trans hb (Ext.alloc _ _)) hb1 | have hb := hb1); clear hb1; obtain ⟨hc1, hf1⟩ := hb.old)
    | (go_at_call 16; refine (H1.out _).mono ?_; rintro e w1 ⟨rfl, hb1⟩; (first | replace hb := Ext.trans hb hb1 | replace hb := Ext.trans (Ext.trans hb (Ext.drewN _ _)) hb1 | replace hb := Ext.trans (Ext.trans hb (Ext.alloc _ _)) hb1 | have hb := hb1); clear hb1; obtain ⟨hc1, hf1⟩ := hb.old)
    | (go_at_call 18; refine (H2.out _).mono ?_; rintro e w1 ⟨rfl, hb1⟩; (first | replace hb := Ext.trans hb hb1 | replace hb := Ext.trans (Ext.trans hb (Ext.drewN _ _)) hb1 | replace hb := Ext.trans (Ext.trans hb (Ext.alloc _ _)) hb1 | have hb := hb1); clear hb1; obtain ⟨hc1, hf1⟩ := hb.old)
    | (go_at_call 17; refine (H3.out _).mono ?_; rintro e w1 ⟨rfl, hb1⟩; (first | replace hb := Ext.trans hb hb1 | replace hb := Ext.trans (Ext.trans hb (Ext.drewN _ _)) hb1 | replace hb := Ext.trans (Ext.trans hb (Ext.alloc _ _)) hb1 | have hb := hb1); clear hb1; obtain ⟨hc1, hf1⟩ := hb.old)
    | (go_at_call 19; refine (H4.out _).mono ?_; rintro e w1 ⟨rfl, hb1⟩; (first | replace hb := Ext.trans hb hb1 | replace hb := Ext.trans (Ext.trans hb (Ext.drewN _ _)) hb1 | replace hb := Ext.trans (Ext.trans hb (Ext.alloc _ _)) hb1 | have hb := hb1); clear hb1; obtain ⟨hc1, hf1⟩ := hb.old)
    | (go_at_call 20; (first | (with_reducible refine (n1.out _).mono ?_) | (with_reducible refine (n2.out _).mono ?_)); rintro e w1 ⟨rfl, hb1⟩; replace hb := Ext.trans hb hb1; clear hb1))
  go_ret
  exact ⟨rfl, (by repeat (first | exact Ext.refl _ | assumption | exact Ext.alloc _ _ | refine Ext.trans ?_ (by assumption) | refine Ext.trans ?_ (Ext.alloc _ _) | refine Ext.trans ?_ (Ext.drewN _ _) | refine Ext.trans ?_ (Ext.drew _)))⟩

set_option maxRecDepth 100000 in
set_option maxHeartbeats 1000000 in
theorem rests_law (m d : Int) (w : World) : Calls Try.prog 5 #[I m, I d] w fun e w' => e = .returned (.bool true) ∧ Ext w w' := by
  have k1 := rst_k m d
  have H1 := Lib.hid (fun w => rest_any m d w)
  have H2 := Lib.hid (fun w => rrest_any m d w)
  generalize rstF m d = p at *
  obtain ⟨a, k⟩ := p
  simp only [res2, ref2] at k1 H1 H2
  have n1 := Lib.hid (fun w => num_of k1 w)
  generalize errv k = v1 at *
  clear k1
  go_enter Try.func5, Try.ntmps5
  go_wp2_with (first
    | (go_at_call 11; refine (awake_any _).mono ?_; rintro e w1 ⟨rfl, hb1⟩; (first | replace hb := Ext.trans hb hb1 | replace hb := Ext.trans (Ext.trans hb (Ext.drewN _ _)) hb1 | replace hb := Ext.trans (Ext.trans hb (Ext.alloc _ _)) hb1 | have hb := hb1); clear hb1; obtain ⟨hc1, hf1⟩ := hb.old)
    | (go_at_call 21; refine (H1.out _).mono ?_; rintro e w1 ⟨rfl, hb1⟩; (first | replace hb := Ext.trans hb hb1 | replace hb := Ext.trans (Ext.trans hb (Ext.drewN _ _)) hb1 | replace hb := Ext.trans (Ext.trans hb (Ext.alloc _ _)) hb1 | have hb := hb1); clear hb1; obtain ⟨hc1, hf1⟩ := hb.old)
    | (go_at_call 22; refine (H2.out _).mono ?_; rintro e w1 ⟨rfl, hb1⟩; (first | replace hb := Ext.trans hb hb1 | replace hb := Ext.trans (Ext.trans hb (Ext.drewN _ _)) hb1 | replace hb := Ext.trans (Ext.trans hb (Ext.alloc _ _)) hb1 | have hb := hb1); clear hb1; obtain ⟨hc1, hf1⟩ := hb.old)
    | (go_at_call 20; refine (n1.out _).mono ?_; rintro e w1 ⟨rfl, hb1⟩; (first | replace hb := Ext.trans hb hb1 | replace hb := Ext.trans (Ext.trans hb (Ext.drewN _ _)) hb1 | replace hb := Ext.trans (Ext.trans hb (Ext.alloc _ _)) hb1 | have hb := hb1); clear hb1; obtain ⟨hc1, hf1⟩ := hb.old))
  go_ret
  exact ⟨rfl, (by repeat (first | exact Ext.refl _ | assumption | exact Ext.alloc _ _ | refine Ext.trans ?_ (by assumption) | refine Ext.trans ?_ (Ext.alloc _ _) | refine Ext.trans ?_ (Ext.drewN _ _) | refine Ext.trans ?_ (Ext.drew _)))⟩

set_option maxRecDepth 100000 in
set_option maxHeartbeats 1000000 in
theorem scales_law (x y m : Int) (w : World) : Calls Try.prog 6 #[I x, I y, I m] w fun e w' => e = .returned (.bool true) ∧ Ext w w' := by
  have k1 := wi_k x y m
  have k2 := sc_k x y m
  have H1 := Lib.hid (fun w => within_any x y m w)
  have H2 := Lib.hid (fun w => rwithin_any x y m w)
  have H3 := Lib.hid (fun w => scale_any x y m w)
  have H4 := Lib.hid (fun w => rscale_any x y m w)
  generalize wiF x y m = p at *
  generalize scF x y m = q at *
  obtain ⟨b, k⟩ := p
  obtain ⟨u, v, c, l⟩ := q
  simp only [resW, refW, resS, refS] at k1 k2 H1 H2 H3 H4
  have n1 := Lib.hid (fun w => num_of k1 w)
  have n2 := Lib.hid (fun w => num_of k2 w)
  generalize errv k = v1 at *
  generalize errv l = v2 at *
  clear k1 k2
  go_enter Try.func6, Try.ntmps6
  go_wp2_with (first
    | (go_at_call 11; refine (awake_any _).mono ?_; rintro e w1 ⟨rfl, hb1⟩; (first | replace hb := Ext.trans hb hb1 | replace hb := Ext.trans (Ext.trans hb (Ext.drewN _ _)) hb1 | replace hb := Ext.trans (Ext.trans hb (Ext.alloc _ _)) hb1 | have hb := hb1); clear hb1; obtain ⟨hc1, hf1⟩ := hb.old)
    | (go_at_call 23; refine (H1.out _).mono ?_; rintro e w1 ⟨rfl, hb1⟩; (first | replace hb := Ext.trans hb hb1 | replace hb := Ext.trans (Ext.trans hb (Ext.drewN _ _)) hb1 | replace hb := Ext.trans (Ext.trans hb (Ext.alloc _ _)) hb1 | have hb := hb1); clear hb1; obtain ⟨hc1, hf1⟩ := hb.old)
    | (go_at_call 25; refine (H2.out _).mono ?_; rintro e w1 ⟨rfl, hb1⟩; (first | replace hb := Ext.trans hb hb1 | replace hb := Ext.trans (Ext.trans hb (Ext.drewN _ _)) hb1 | replace hb := Ext.trans (Ext.trans hb (Ext.alloc _ _)) hb1 | have hb := hb1); clear hb1; obtain ⟨hc1, hf1⟩ := hb.old)
    | (go_at_call 24; refine (H3.out _).mono ?_; rintro e w1 ⟨rfl, hb1⟩; (first | replace hb := Ext.trans hb hb1 | replace hb := Ext.trans (Ext.trans hb (Ext.drewN _ _)) hb1 | replace hb := Ext.trans (Ext.trans hb (Ext.alloc _ _)) hb1 | have hb := hb1); clear hb1; obtain ⟨hc1, hf1⟩ := hb.old)
    | (go_at_call 26; refine (H4.out _).mono ?_; rintro e w1 ⟨rfl, hb1⟩; (first | replace hb := Ext.trans hb hb1 | replace hb := Ext.trans (Ext.trans hb (Ext.drewN _ _)) hb1 | replace hb := Ext.trans (Ext.trans hb (Ext.alloc _ _)) hb1 | have hb := hb1); clear hb1; obtain ⟨hc1, hf1⟩ := hb.old)
    | (go_at_call 20; (first | (with_reducible refine (n1.out _).mono ?_) | (with_reducible refine (n2.out _).mono ?_)); rintro e w1 ⟨rfl, hb1⟩; replace hb := Ext.trans hb hb1; clear hb1))
  go_ret
  exact ⟨by simp, (by repeat (first | exact Ext.refl _ | assumption | exact Ext.alloc _ _ | refine Ext.trans ?_ (by assumption) | refine Ext.trans ?_ (Ext.alloc _ _) | refine Ext.trans ?_ (Ext.drewN _ _) | refine Ext.trans ?_ (Ext.drew _)))⟩
end Go.Proofs.Ytgedhbiechlkcaa
