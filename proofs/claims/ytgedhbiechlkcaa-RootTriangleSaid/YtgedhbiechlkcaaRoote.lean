/- Contracts of package root: Scale. -/
import Derived.Test.YtgedhbiechlkcaaRootd
namespace Go.Proofs.Ytgedhbiechlkcaa
open Go.RowKit

theorem results_tmp4 {fn : Func} {t u v s : Tmp} (h : fn.results = #[.tmp t, .tmp u, .tmp v, .tmp s]) (tmps : Array Value) (P : Program) (w : World) :
    (results fn tmps).run P w = .ok (.tuple #[tmps.getD t undef, tmps.getD u undef, tmps.getD v undef, tmps.getD s undef]) w := by
  simp [results, h]
theorem wi_cases (x y m : Int) : (wiF x y m = (true, 0) ∧ (okS x ∧ okS y ∧ okS m) ∧ 0 ≤ m ∧ x * x + y * y ≤ m * m) ∨ (wiF x y m = (false, 0) ∧ (okS x ∧ okS y ∧ okS m) ∧ 0 ≤ m ∧ m * m < x * x + y * y) ∨ wiF x y m = (false, 3) := by
  by_cases hs : okS x ∧ okS y ∧ okS m
  · by_cases hm : m < 0
    · exact .inr (.inr (wi_neg hs hm))
    · rw [wi_ok hs hm]
      by_cases h : x * x + y * y ≤ m * m
      · exact .inl ⟨by rw [decide_eq_true h], hs, by omega, h⟩
      · exact .inr (.inl ⟨by rw [decide_eq_false h], hs, by omega, by omega⟩)
  · exact .inr (.inr (wi_bad hs))
theorem within_is {x y m : Int} {b : Bool} (h : wiF x y m = (b, 0)) (w : World) : Calls Try.prog 23 #[I x, I y, I m] w fun e w' => e = .returned (.tuple #[.bool b, .nilIface]) ∧ Ext w w' := by
  have := within_any x y m w; rw [h] at this; exact this
theorem within_no {x y m : Int} (h : wiF x y m = (false, 3)) (w : World) : Calls Try.prog 23 #[I x, I y, I m] w fun e w' => e = .returned (.tuple #[.bool false, .iface 50 (I 3)]) ∧ Ext w w' := by
  have := within_any x y m w; rw [h] at this; exact this
theorem rwithin_is {x y m k : Int} {b : Bool} (h : wiF x y m = (b, k)) (w : World) : Calls Try.prog 25 #[I x, I y, I m] w fun e w' => e = .returned (.tuple #[.bool b, I k]) ∧ Ext w w' := by
  have := rwithin_any x y m w; rw [h] at this; exact this
theorem sc_in {x y m : Int} (h : wiF x y m = (true, 0)) : scF x y m = (x, y, false, 0) := by unfold scF; rw [h]; rfl
theorem sc_out {x y m : Int} (h : wiF x y m = (false, 0)) : scF x y m = ((x * m).tdiv (up (x * x + y * y)), (y * m).tdiv (up (x * x + y * y)), true, 0) := by unfold scF; rw [h]; rfl
theorem sc_no {x y m : Int} (h : wiF x y m = (false, 3)) : scF x y m = (0, 0, false, 3) := by unfold scF; rw [h]; rfl
theorem up_pos {n : Int} (h : 0 < n) (h1 : n ≤ 9223372036854775807) : 0 < up n := by
  obtain ⟨a, b, _⟩ := up_sp (n := n) (by omega) h1
  by_cases h : up n = 0
  · rw [h] at b; omega
  · omega

set_option maxRecDepth 100000 in
set_option maxHeartbeats 1000000 in
theorem scale_any (x y m : Int) (w : World) : Calls Try.prog 24 #[I x, I y, I m] w fun e w' => e = .returned (resS (scF x y m)) ∧ Ext w w' := by
  rcases wi_cases x y m with ⟨h, hs, hm, hl⟩ | ⟨h, hs, hm, hl⟩ | h
  · have HR := Lib.hid (sc_in h)
    have HW := Lib.hid (fun w => within_is h w)
    clear h hs hm hl
    go_enter Try.func24, Try.ntmps24
    go_wp2_with (first | (go_at_call 23; refine (HW.out _).mono ?_; rintro e w1 ⟨rfl, hb1⟩; (first | replace hb := Ext.trans hb hb1 | replace hb := Ext.trans (Ext.trans hb (Ext.drewN _ _)) hb1 | replace hb := Ext.trans (Ext.trans hb (Ext.alloc _ _)) hb1 | have hb := hb1); clear hb1; obtain ⟨hc1, hf1⟩ := hb.old))
    ((try simp only [Exit.inBlock, Exit.then]); refine bodyPost_ret (results_tmp4 rfl _ _ _) rfl ?_)
    exact ⟨by rw [HR.out]; rfl, (by repeat (first | exact Ext.refl _ | assumption | exact Ext.alloc _ _ | refine Ext.trans ?_ (by assumption) | refine Ext.trans ?_ (Ext.alloc _ _) | refine Ext.trans ?_ (Ext.drewN _ _) | refine Ext.trans ?_ (Ext.drew _)))⟩
  · have HR := Lib.hid (sc_out h)
    have HW := Lib.hid (fun w => within_is h w)
    obtain ⟨x0, x1⟩ := sq_bd hs.1
    obtain ⟨y0, y1⟩ := sq_bd hs.2.1
    obtain ⟨z0, z1⟩ := sq_bd hs.2.2
    have HB := Lib.hid (fun w => up_any (x * x + y * y) w (by omega))
    have l0 := up_pos (n := x * x + y * y) (by omega) (by omega)
    obtain ⟨_, l1⟩ := up_bd (n := x * x + y * y) (by omega)
    obtain ⟨a0, a1⟩ := mul_bd hs.1 hs.2.2
    obtain ⟨b0, b1⟩ := mul_bd hs.2.1 hs.2.2
    clear h hs hl
    generalize hl : up (x * x + y * y) = l at *
    clear hl
    have hl0 : ¬ l = 0 := by omega
    obtain ⟨c0, c1⟩ := tdiv_bd (l := l) a0 a1
    obtain ⟨d0, d1⟩ := tdiv_bd (l := l) b0 b1
    go_enter Try.func24, Try.ntmps24
    go_wp2_with (first | (go_at_call 23; refine (HW.out _).mono ?_; rintro e w1 ⟨rfl, hb1⟩; (first | replace hb := Ext.trans hb hb1 | replace hb := Ext.trans (Ext.trans hb (Ext.drewN _ _)) hb1 | replace hb := Ext.trans (Ext.trans hb (Ext.alloc _ _)) hb1 | have hb := hb1); clear hb1; obtain ⟨hc1, hf1⟩ := hb.old) | (go_at_call 14; refine (HB.out _).mono ?_; rintro e w1 ⟨rfl, hb1⟩; (first | replace hb := Ext.trans hb hb1 | replace hb := Ext.trans (Ext.trans hb (Ext.drewN _ _)) hb1 | replace hb := Ext.trans (Ext.trans hb (Ext.alloc _ _)) hb1 | have hb := hb1); clear hb1; obtain ⟨hc1, hf1⟩ := hb.old))
    obtain ⟨hc, hf⟩ := hb.old
    have hL := fun (x : Later _) => (Ext.trans hb x.ext).old.1
    refine wp_region_later (by kernel_rfl) (by kernel_rfl) ?_
    repeat (go_big_quiet_step ((fail)))
    refine wpQuiet_nil ?_
    intro w2 hw2
    replace hb := Ext.trans hb (Later.of hw2)
    clear hw2 hL
    obtain ⟨hc, hf⟩ := hb.old
    go_wp2
    ((try simp only [Exit.inBlock, Exit.then]); refine bodyPost_ret (results_tmp4 rfl _ _ _) rfl ?_)
    exact ⟨by rw [HR.out]; rfl, (by repeat (first | exact Ext.refl _ | assumption | exact Ext.alloc _ _ | refine Ext.trans ?_ (by assumption) | refine Ext.trans ?_ (Ext.alloc _ _) | refine Ext.trans ?_ (Ext.drewN _ _) | refine Ext.trans ?_ (Ext.drew _)))⟩
  · have HR := Lib.hid (sc_no h)
    have HW := Lib.hid (fun w => within_no h w)
    clear h
    go_enter Try.func24, Try.ntmps24
    go_wp2_with (first | (go_at_call 23; refine (HW.out _).mono ?_; rintro e w1 ⟨rfl, hb1⟩; (first | replace hb := Ext.trans hb hb1 | replace hb := Ext.trans (Ext.trans hb (Ext.drewN _ _)) hb1 | replace hb := Ext.trans (Ext.trans hb (Ext.alloc _ _)) hb1 | have hb := hb1); clear hb1; obtain ⟨hc1, hf1⟩ := hb.old))
    ((try simp only [Exit.inBlock, Exit.then]); refine bodyPost_ret (results_tmp4 rfl _ _ _) rfl ?_)
    exact ⟨by rw [HR.out]; rfl, (by repeat (first | exact Ext.refl _ | assumption | exact Ext.alloc _ _ | refine Ext.trans ?_ (by assumption) | refine Ext.trans ?_ (Ext.alloc _ _) | refine Ext.trans ?_ (Ext.drewN _ _) | refine Ext.trans ?_ (Ext.drew _)))⟩

set_option maxRecDepth 100000 in
set_option maxHeartbeats 1000000 in
theorem rscale_any (x y m : Int) (w : World) : Calls Try.prog 26 #[I x, I y, I m] w fun e w' => e = .returned (refS (scF x y m)) ∧ Ext w w' := by
  rcases wi_cases x y m with ⟨h, hs, hm, hl⟩ | ⟨h, hs, hm, hl⟩ | h
  · have HR := Lib.hid (sc_in h)
    have HW := Lib.hid (fun w => rwithin_is h w)
    clear h hs hm hl
    go_enter Try.func26, Try.ntmps26
    go_wp2_with (first | (go_at_call 25; refine (HW.out _).mono ?_; rintro e w1 ⟨rfl, hb1⟩; (first | replace hb := Ext.trans hb hb1 | replace hb := Ext.trans (Ext.trans hb (Ext.drewN _ _)) hb1 | replace hb := Ext.trans (Ext.trans hb (Ext.alloc _ _)) hb1 | have hb := hb1); clear hb1; obtain ⟨hc1, hf1⟩ := hb.old))
    ((try simp only [Exit.inBlock, Exit.then]); refine bodyPost_ret (results_tmp4 rfl _ _ _) rfl ?_)
    exact ⟨by rw [HR.out]; rfl, (by repeat (first | exact Ext.refl _ | assumption | exact Ext.alloc _ _ | refine Ext.trans ?_ (by assumption) | refine Ext.trans ?_ (Ext.alloc _ _) | refine Ext.trans ?_ (Ext.drewN _ _) | refine Ext.trans ?_ (Ext.drew _)))⟩
  · have HR := Lib.hid (sc_out h)
    have HW := Lib.hid (fun w => rwithin_is h w)
    obtain ⟨x0, x1⟩ := sq_bd hs.1
    obtain ⟨y0, y1⟩ := sq_bd hs.2.1
    obtain ⟨z0, z1⟩ := sq_bd hs.2.2
    have HB := Lib.hid (fun w => rup_any (x * x + y * y) w (by omega))
    have l0 := up_pos (n := x * x + y * y) (by omega) (by omega)
    obtain ⟨_, l1⟩ := up_bd (n := x * x + y * y) (by omega)
    obtain ⟨a0, a1⟩ := mul_bd hs.1 hs.2.2
    obtain ⟨b0, b1⟩ := mul_bd hs.2.1 hs.2.2
    clear h hs hl
    generalize hl : up (x * x + y * y) = l at *
    clear hl
    have hl0 : ¬ l = 0 := by omega
    obtain ⟨c0, c1⟩ := tdiv_bd (l := l) a0 a1
    obtain ⟨d0, d1⟩ := tdiv_bd (l := l) b0 b1
    go_enter Try.func26, Try.ntmps26
    go_wp2_with (first | (go_at_call 25; refine (HW.out _).mono ?_; rintro e w1 ⟨rfl, hb1⟩; (first | replace hb := Ext.trans hb hb1 | replace hb := Ext.trans (Ext.trans hb (Ext.drewN _ _)) hb1 | replace hb := Ext.trans (Ext.trans hb (Ext.alloc _ _)) hb1 | have hb := hb1); clear hb1; obtain ⟨hc1, hf1⟩ := hb.old) | (go_at_call 15; refine (HB.out _).mono ?_; rintro e w1 ⟨rfl, hb1⟩; (first | replace hb := Ext.trans hb hb1 | replace hb := Ext.trans (Ext.trans hb (Ext.drewN _ _)) hb1 | replace hb := Ext.trans (Ext.trans hb (Ext.alloc _ _)) hb1 | have hb := hb1); clear hb1; obtain ⟨hc1, hf1⟩ := hb.old))
    obtain ⟨hc, hf⟩ := hb.old
    have hL := fun (x : Later _) => (Ext.trans hb x.ext).old.1
    refine wp_region_later (by kernel_rfl) (by kernel_rfl) ?_
    repeat (go_big_quiet_step ((fail)))
    refine wpQuiet_nil ?_
    intro w2 hw2
    replace hb := Ext.trans hb (Later.of hw2)
    clear hw2 hL
    obtain ⟨hc, hf⟩ := hb.old
    go_wp2
    ((try simp only [Exit.inBlock, Exit.then]); refine bodyPost_ret (results_tmp4 rfl _ _ _) rfl ?_)
    exact ⟨by rw [HR.out]; rfl, (by repeat (first | exact Ext.refl _ | assumption | exact Ext.alloc _ _ | refine Ext.trans ?_ (by assumption) | refine Ext.trans ?_ (Ext.alloc _ _) | refine Ext.trans ?_ (Ext.drewN _ _) | refine Ext.trans ?_ (Ext.drew _)))⟩
  · have HR := Lib.hid (sc_no h)
    have HW := Lib.hid (fun w => rwithin_is h w)
    clear h
    go_enter Try.func26, Try.ntmps26
    go_wp2_with (first | (go_at_call 25; refine (HW.out _).mono ?_; rintro e w1 ⟨rfl, hb1⟩; (first | replace hb := Ext.trans hb hb1 | replace hb := Ext.trans (Ext.trans hb (Ext.drewN _ _)) hb1 | replace hb := Ext.trans (Ext.trans hb (Ext.alloc _ _)) hb1 | have hb := hb1); clear hb1; obtain ⟨hc1, hf1⟩ := hb.old))
    ((try simp only [Exit.inBlock, Exit.then]); refine bodyPost_ret (results_tmp4 rfl _ _ _) rfl ?_)
    exact ⟨by rw [HR.out]; rfl, (by repeat (first | exact Ext.refl _ | assumption | exact Ext.alloc _ _ | refine Ext.trans ?_ (by assumption) | refine Ext.trans ?_ (Ext.alloc _ _) | refine Ext.trans ?_ (Ext.drewN _ _) | refine Ext.trans ?_ (Ext.drew _)))⟩

end Go.Proofs.Ytgedhbiechlkcaa
