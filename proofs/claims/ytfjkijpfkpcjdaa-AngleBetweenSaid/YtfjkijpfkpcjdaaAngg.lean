/- The law AngleBetween: it returns true. -/
import Derived.Test.YtfjkijpfkpcjdaaAngf
import Derived.Test.YtfjkijpfkpcjdaaAngm
import Derived.Deep.DeepCutAuto
namespace Go.Proofs.Ytfjkijpfkpcjdaa
open Go.RowKit

theorem middle_is (a b c : Int) (v : Int × Bool) (w : World) (h : mid a b c = v) : Calls Try.prog 24 #[I a, I b, I c] w fun e w' => e = .returned (.tuple #[I v.1, .bool v.2]) ∧ Ext w w' := by
  subst h; exact middle_any a b c w
def sK (m a b c : Int) : Nat → Int
  | 0 => 0
  | 1 => dst m a
  | 2 => dst m a + dst m b
  | _ => dst m a + dst m b + dst m c
def nK (t m a b c : Int) : Nat → Int
  | 0 => 0
  | 1 => nr t m a
  | 2 => nr t m a + nr t m b
  | _ => nr t m a + nr t m b + nr t m c
def cK (t a b c : Int) : Nat → Bool
  | 0 => true
  | 1 => decide (dst t a < 16384)
  | 2 => decide (dst t a < 16384) && decide (dst t b < 16384)
  | _ => decide (dst t a < 16384) && decide (dst t b < 16384) && decide (dst t c < 16384)
theorem nr_t {t m x : Int} (h : dst t m ≤ dst t x) : nr t m x = 1 := by unfold nr; rw [if_pos h]
theorem nr_f {t m x : Int} (h : ¬ dst t m ≤ dst t x) : nr t m x = 0 := by unfold nr; rw [if_neg h]
theorem nr_bd (t m x : Int) : 0 ≤ nr t m x ∧ nr t m x ≤ 1 := by unfold nr; split <;> omega
def mx3 (x y z : Int) : Int := if (if x < y then y else x) < z then z else if x < y then y else x
theorem mx3_facts (x y z : Int) : x ≤ mx3 x y z ∧ y ≤ mx3 x y z ∧ z ≤ mx3 x y z ∧ (mx3 x y z = x ∨ mx3 x y z = y ∨ mx3 x y z = z) := by
  unfold mx3; split <;> split <;> omega

set_option maxRecDepth 100000 in
set_option maxHeartbeats 1000000 in
theorem between_near (a b c t : Int) (w : World) (hn : near3 a b c) : Calls Try.prog 10 #[.agg #[I a, I b, I c], I t] w fun e w' => e = .returned (.bool true) ∧ Ext w w' := by
  have H1 := Lib.hid (mid_t hn)
  have H2 := Lib.hid ((mid_turn a b c).trans (mid_t hn))
  generalize hm : mdl (dst a b) (dst b c) (dst a c) (nrm a) (nrm b) (nrm c) = m at *
  have HM := Lib.hid hm.symm; clear hm
  have HN := Lib.hid hn; clear hn
  go_enter Try.func10, Try.ntmps10
  go_wp2_with (first
    | (go_at_call 13; refine (awake_any _).mono ?_; rintro e w1 ⟨rfl, hb1⟩; (first | replace hb := Ext.trans hb hb1 | replace hb := Ext.trans (Ext.trans hb (Ext.drewN _ _)) hb1 | replace hb := Ext.trans (Ext.trans hb (Ext.alloc _ _)) hb1 | have hb := hb1); clear hb1; obtain ⟨hc1, hf1⟩ := hb.old)
    | (go_at_call 24; (first | (with_reducible refine (middle_is a b c (m, true) _ H1.out).mono ?_) | (with_reducible refine (middle_is c a b (m, true) _ H2.out).mono ?_)); rintro e w1 ⟨rfl, hb1⟩; replace hb := Ext.trans hb hb1; clear hb1; obtain ⟨hc1, hf1⟩ := hb.old))
  have hL := fun (x : Later _) => (Ext.trans hb x.ext).old.1
  refine wp_region_later (by kernel_rfl) (by kernel_rfl) ?_
  repeat (go_big_quiet_step (((go_at_call 18; exact Calls.later (dist_any _ _ _)))))
  refine wpQuiet_nil ?_
  intro w2 hw2
  replace hb := Ext.trans hb (Later.of hw2)
  clear hw2 hL
  obtain ⟨hc, hf⟩ := hb.old
  go_upto_region 6 with (fail)
  generalize hF : (if (if dst a b < dst b c then dst b c else dst a b) < dst a c then dst a c else if dst a b < dst b c then dst b c else dst a b) = F
  have hF' : mx3 (dst a b) (dst b c) (dst a c) = F := hF
  obtain ⟨f1, f2, f3, f4⟩ := mx3_facts (dst a b) (dst b c) (dst a c)
  rw [hF'] at f1 f2 f3 f4
  clear hF hF'
  have hlt : F < 16384 := by obtain ⟨n1, n2, n3⟩ := HN.out; omega
  have HS := Lib.hid (mdl_sum HN.out HM.out F f1 f2 f3 f4)
  have HT : Hid (closeB t a b c = true → 2 ≤ nearN t m a b c) := fun h => near_two HN.out HM.out h
  have hw : Ext w w2 := (by repeat (first | exact Ext.refl _ | assumption | exact Ext.alloc _ _ | refine Ext.trans ?_ (by assumption) | refine Ext.trans ?_ (Ext.alloc _ _) | refine Ext.trans ?_ (Ext.drewN _ _) | refine Ext.trans ?_ (Ext.drew _)))
  clear f1 f2 f3 f4
  go_wp2_with (fail)
  clear hb hc hf
  go_loopw [10, 11, 12, 71] (fun s n cl k wr => Ext w wr ∧ ∃ j : Nat, j ≤ 3 ∧ k = I j ∧ s = I (sK m a b c j) ∧ n = I (nK t m a b c j) ∧ cl = .bool (cK t a b c j)) (fun _ _ _ k _ => 3 - (intOf k).toNat)
  case atStart => exact ⟨hw, 0, by omega, rfl, rfl, rfl, rfl⟩
  case round =>
    clear hw
    obtain ⟨hb, j, hj, hk, hs, hnn, hcl⟩ := hrel
    obtain hj0 | hj0 | hj0 | hj0 : j = 0 ∨ j = 1 ∨ j = 2 ∨ j = 3 := by omega
    · subst hj0
      replace hk : _ = I 0 := hk
      replace hs : _ = I (0) := hs
      replace hnn : _ = I (0) := hnn
      replace hcl : _ = Value.bool (true) := hcl
      have ix : ∀ w, (Instr.index 43 (.agg #[I a, I b, I c]) (I 0)).run Try.prog w = .ok (I a) w := fun _ => by kernel_rfl

      subst hk hs hnn hcl
      obtain ⟨s0, s1⟩ := dst_bd m a
      obtain ⟨s2, s3⟩ := dst_bd m b
      obtain ⟨s4, s5⟩ := dst_bd m c
      obtain ⟨r0, r1⟩ := nr_bd t m a
      obtain ⟨r2, r3⟩ := nr_bd t m b
      by_cases q1 : dst t a < 16384
      all_goals
        by_cases q2 : dst t m ≤ dst t a
        all_goals
          have HQ : Hid (nr t m a = (if dst t m ≤ dst t a then 1 else 0)) := by show nr t m a = _; rfl
          have HD : Hid (decide (dst t a < 16384) = decide (dst t a < 16384)) := Lib.hid rfl
          skip
          all_goals
            go_wp2_with (first
          | (go_at_call 18; refine (dist_any _ _ _).mono ?_; rintro e w1 ⟨rfl, hb1⟩; (first | replace hb := Ext.trans hb hb1 | replace hb := Ext.trans (Ext.trans hb (Ext.drewN _ _)) hb1 | replace hb := Ext.trans (Ext.trans hb (Ext.alloc _ _)) hb1 | have hb := hb1); clear hb1; obtain ⟨hc1, hf1⟩ := hb.old))
            all_goals
              go_roundw
              case rel =>
                refine ⟨(by repeat (first | exact Ext.refl _ | assumption | exact Ext.alloc _ _ | refine Ext.trans ?_ (by assumption) | refine Ext.trans ?_ (Ext.alloc _ _) | refine Ext.trans ?_ (Ext.drewN _ _) | refine Ext.trans ?_ (Ext.drew _))), 1, by omega, by go_num, ?_, ?_, ?_⟩
                · first | rfl | exact congrArg _ (by simp [sK])
                · show _ = I (nr t m a)
                  first | (rw [nr_t (x := a) (by omega)]; done) | (rw [nr_t (x := a) (by omega)]; rfl) | (rw [nr_f (x := a) (by omega)]; done) | (rw [nr_f (x := a) (by omega)]; simp; done)
                · show _ = Value.bool (decide (dst t a < 16384))
                  first | rfl | (simp [q1])
              case measure => simp [intOf]
    · subst hj0
      replace hk : _ = I 1 := hk
      replace hs : _ = I (dst m a) := hs
      replace hnn : _ = I (nr t m a) := hnn
      replace hcl : _ = Value.bool (decide (dst t a < 16384)) := hcl
      have ix : ∀ w, (Instr.index 43 (.agg #[I a, I b, I c]) (I 1)).run Try.prog w = .ok (I b) w := fun _ => by kernel_rfl
      obtain ⟨C, hC⟩ : ∃ C : Bool, C = decide (dst t a < 16384) := ⟨_, rfl⟩
      rw [← hC] at hcl
      subst hk hs hnn hcl
      have HC := Lib.hid hC.symm; clear hC
      obtain ⟨s0, s1⟩ := dst_bd m a
      obtain ⟨s2, s3⟩ := dst_bd m b
      obtain ⟨s4, s5⟩ := dst_bd m c
      obtain ⟨r0, r1⟩ := nr_bd t m a
      obtain ⟨r2, r3⟩ := nr_bd t m b
      by_cases q1 : dst t b < 16384
      all_goals
        by_cases q2 : dst t m ≤ dst t b
        all_goals
          have HQ : Hid (nr t m b = (if dst t m ≤ dst t b then 1 else 0)) := by show nr t m b = _; rfl
          have HD : Hid (decide (dst t b < 16384) = decide (dst t b < 16384)) := Lib.hid rfl
          cases C
          all_goals
            go_wp2_with (first
          | (go_at_call 18; refine (dist_any _ _ _).mono ?_; rintro e w1 ⟨rfl, hb1⟩; (first | replace hb := Ext.trans hb hb1 | replace hb := Ext.trans (Ext.trans hb (Ext.drewN _ _)) hb1 | replace hb := Ext.trans (Ext.trans hb (Ext.alloc _ _)) hb1 | have hb := hb1); clear hb1; obtain ⟨hc1, hf1⟩ := hb.old))
            all_goals
              go_roundw
              case rel =>
                refine ⟨(by repeat (first | exact Ext.refl _ | assumption | exact Ext.alloc _ _ | refine Ext.trans ?_ (by assumption) | refine Ext.trans ?_ (Ext.alloc _ _) | refine Ext.trans ?_ (Ext.drewN _ _) | refine Ext.trans ?_ (Ext.drew _))), 2, by omega, by go_num, ?_, ?_, ?_⟩
                · first | rfl | exact congrArg _ (by simp [sK])
                · show _ = I (nr t m a + nr t m b)
                  first | (rw [nr_t (x := b) (by omega)]; done) | (rw [nr_t (x := b) (by omega)]; rfl) | (rw [nr_f (x := b) (by omega)]; done) | (rw [nr_f (x := b) (by omega)]; simp; done)
                · show _ = Value.bool ((decide (dst t a < 16384) && decide (dst t b < 16384)))
                  have hC := HC.out; first | rfl | (simp only [hC]; simp [q1]) | (simp [hC, q1])
              case measure => simp [intOf]
    · subst hj0
      replace hk : _ = I 2 := hk
      replace hs : _ = I (dst m a + dst m b) := hs
      replace hnn : _ = I (nr t m a + nr t m b) := hnn
      replace hcl : _ = Value.bool ((decide (dst t a < 16384) && decide (dst t b < 16384))) := hcl
      have ix : ∀ w, (Instr.index 43 (.agg #[I a, I b, I c]) (I 2)).run Try.prog w = .ok (I c) w := fun _ => by kernel_rfl
      obtain ⟨C, hC⟩ : ∃ C : Bool, C = (decide (dst t a < 16384) && decide (dst t b < 16384)) := ⟨_, rfl⟩
      rw [← hC] at hcl
      subst hk hs hnn hcl
      have HC := Lib.hid hC.symm; clear hC
      obtain ⟨s0, s1⟩ := dst_bd m a
      obtain ⟨s2, s3⟩ := dst_bd m b
      obtain ⟨s4, s5⟩ := dst_bd m c
      obtain ⟨r0, r1⟩ := nr_bd t m a
      obtain ⟨r2, r3⟩ := nr_bd t m b
      by_cases q1 : dst t c < 16384
      all_goals
        by_cases q2 : dst t m ≤ dst t c
        all_goals
          have HQ : Hid (nr t m c = (if dst t m ≤ dst t c then 1 else 0)) := by show nr t m c = _; rfl
          have HD : Hid (decide (dst t c < 16384) = decide (dst t c < 16384)) := Lib.hid rfl
          cases C
          all_goals
            go_wp2_with (first
          | (go_at_call 18; refine (dist_any _ _ _).mono ?_; rintro e w1 ⟨rfl, hb1⟩; (first | replace hb := Ext.trans hb hb1 | replace hb := Ext.trans (Ext.trans hb (Ext.drewN _ _)) hb1 | replace hb := Ext.trans (Ext.trans hb (Ext.alloc _ _)) hb1 | have hb := hb1); clear hb1; obtain ⟨hc1, hf1⟩ := hb.old))
            all_goals
              go_roundw
              case rel =>
                refine ⟨(by repeat (first | exact Ext.refl _ | assumption | exact Ext.alloc _ _ | refine Ext.trans ?_ (by assumption) | refine Ext.trans ?_ (Ext.alloc _ _) | refine Ext.trans ?_ (Ext.drewN _ _) | refine Ext.trans ?_ (Ext.drew _))), 3, by omega, by go_num, ?_, ?_, ?_⟩
                · first | rfl | exact congrArg _ (by simp [sK])
                · show _ = I (nr t m a + nr t m b + nr t m c)
                  first | (rw [nr_t (x := c) (by omega)]; done) | (rw [nr_t (x := c) (by omega)]; rfl) | (rw [nr_f (x := c) (by omega)]; done) | (rw [nr_f (x := c) (by omega)]; simp; done)
                · show _ = Value.bool ((decide (dst t a < 16384) && decide (dst t b < 16384) && decide (dst t c < 16384)))
                  have hC := HC.out; first | rfl | (simp only [hC]; simp [q1]) | (simp [hC, q1])
              case measure => simp [intOf]
    · subst hj0
      replace hk : _ = I 3 := hk
      replace hs : _ = I (dst m a + dst m b + dst m c) := hs
      replace hnn : _ = I (nearN t m a b c) := hnn
      replace hcl : _ = Value.bool (closeB t a b c) := hcl
      rw [HS.out] at hs
      subst hk hs hnn hcl
      by_cases hC : closeB t a b c = true
      · have h2 := HT.out hC
        go_wp2_with fail
        go_ret
        exact ⟨rfl, (by repeat (first | exact Ext.refl _ | assumption | exact Ext.alloc _ _ | refine Ext.trans ?_ (by assumption) | refine Ext.trans ?_ (Ext.alloc _ _) | refine Ext.trans ?_ (Ext.drewN _ _) | refine Ext.trans ?_ (Ext.drew _)))⟩
      · replace hC : closeB t a b c = false := by simpa using hC
        go_wp2_with fail
        go_ret
        exact ⟨rfl, (by repeat (first | exact Ext.refl _ | assumption | exact Ext.alloc _ _ | refine Ext.trans ?_ (by assumption) | refine Ext.trans ?_ (Ext.alloc _ _) | refine Ext.trans ?_ (Ext.drewN _ _) | refine Ext.trans ?_ (Ext.drew _)))⟩

set_option maxRecDepth 100000 in
set_option maxHeartbeats 1000000 in
theorem between_far (a b c t : Int) (w : World) (hn : ¬ near3 a b c) : Calls Try.prog 10 #[.agg #[I a, I b, I c], I t] w fun e w' => e = .returned (.bool true) ∧ Ext w w' := by
  have H1 := Lib.hid (mid_f hn)
  have H2 := Lib.hid ((mid_turn a b c).trans (mid_f hn))
  have HN := Lib.hid hn; clear hn
  go_enter Try.func10, Try.ntmps10
  go_wp2_with (first
    | (go_at_call 13; refine (awake_any _).mono ?_; rintro e w1 ⟨rfl, hb1⟩; (first | replace hb := Ext.trans hb hb1 | replace hb := Ext.trans (Ext.trans hb (Ext.drewN _ _)) hb1 | replace hb := Ext.trans (Ext.trans hb (Ext.alloc _ _)) hb1 | have hb := hb1); clear hb1; obtain ⟨hc1, hf1⟩ := hb.old)
    | (go_at_call 24; (first | (with_reducible refine (middle_is a b c (0, false) _ H1.out).mono ?_) | (with_reducible refine (middle_is c a b (0, false) _ H2.out).mono ?_)); rintro e w1 ⟨rfl, hb1⟩; replace hb := Ext.trans hb hb1; clear hb1; obtain ⟨hc1, hf1⟩ := hb.old))
  have hL := fun (x : Later _) => (Ext.trans hb x.ext).old.1
  refine wp_region_later (by kernel_rfl) (by kernel_rfl) ?_
  repeat (go_big_quiet_step (((go_at_call 18; exact Calls.later (dist_any _ _ _)))))
  refine wpQuiet_nil ?_
  intro w2 hw2
  replace hb := Ext.trans hb (Later.of hw2)
  clear hw2 hL
  obtain ⟨hc, hf⟩ := hb.old
  go_upto_region 6 with (fail)
  generalize hF : (if (if dst a b < dst b c then dst b c else dst a b) < dst a c then dst a c else if dst a b < dst b c then dst b c else dst a b) = F
  have hF' : mx3 (dst a b) (dst b c) (dst a c) = F := hF
  obtain ⟨f1, f2, f3, f4⟩ := mx3_facts (dst a b) (dst b c) (dst a c)
  rw [hF'] at f1 f2 f3 f4
  clear hF hF'
  have hlt : ¬ F < 16384 := fun h => HN.out ⟨by omega, by omega, by omega⟩
  clear f1 f2 f3 f4
  go_wp2_with (fail)
  go_ret
  exact ⟨rfl, (by repeat (first | exact Ext.refl _ | assumption | exact Ext.alloc _ _ | refine Ext.trans ?_ (by assumption) | refine Ext.trans ?_ (Ext.alloc _ _) | refine Ext.trans ?_ (Ext.drewN _ _) | refine Ext.trans ?_ (Ext.drew _)))⟩

theorem between_law (a b c t : Int) (w : World) : Calls Try.prog 10 #[.agg #[I a, I b, I c], I t] w fun e w' => e = .returned (.bool true) ∧ Ext w w' := by
  by_cases h : near3 a b c
  · exact between_near a b c t w h
  · exact between_far a b c t w h
end Go.Proofs.Ytfjkijpfkpcjdaa
