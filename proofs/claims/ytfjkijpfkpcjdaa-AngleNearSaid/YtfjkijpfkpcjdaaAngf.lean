/- The laws AngleMetric and AngleCycle: each returns true. -/
import Derived.Test.YtfjkijpfkpcjdaaAnge
namespace Go.Proofs.Ytfjkijpfkpcjdaa
open Go.RowKit

theorem dist_is (a b v : Int) (w : World) (h : dst a b = v) : Calls Try.prog 18 #[I a, I b] w fun e w' => e = .returned (I v) ∧ Ext w w' := by
  subst h; exact dist_any a b w
theorem norm_is (a v : Int) (w : World) (h : nrm a = v) : Calls Try.prog 14 #[I a] w fun e w' => e = .returned (I v) ∧ Ext w w' := by
  subst h; exact norm_any a w
theorem diff_is (a b v : Int) (w : World) (h : dff a b = v) : Calls Try.prog 16 #[I a, I b] w fun e w' => e = .returned (I v) ∧ Ext w w' := by
  subst h; exact diff_any a b w

set_option maxRecDepth 100000 in
set_option maxHeartbeats 1000000 in
theorem metric_law (a b c : Int) (w : World) : Calls Try.prog 9 #[I a, I b, I c] w fun e w' => e = .returned (.bool true) ∧ Ext w w' := by
  obtain ⟨x0, x1⟩ := dst_bd a b
  obtain ⟨y0, y1⟩ := dst_bd b c
  obtain ⟨z0, z1⟩ := dst_bd a c
  have ht := dst_tri a b c
  have HS := Lib.hid (dst_symm b a)
  by_cases hn : nrm a = nrm b
  · have h0 : (dst a b == 0) = true := by simpa using (dst_zero a b).2 hn
    have h1 : (nrm a == nrm b) = true := by simpa using hn
    clear hn
    go_enter Try.func9, Try.ntmps9
    go_wp2_with (first | (go_at_call 13; refine (awake_any _).mono ?_; rintro e w1 ⟨rfl, hb1⟩; (first | replace hb := Ext.trans hb hb1 | replace hb := Ext.trans (Ext.trans hb (Ext.drewN _ _)) hb1 | replace hb := Ext.trans (Ext.trans hb (Ext.alloc _ _)) hb1 | have hb := hb1); clear hb1; obtain ⟨hc1, hf1⟩ := hb.old) | (go_at_call 18; (with_reducible refine (dist_is b a _ _ HS.out).mono ?_); rintro e w1 ⟨rfl, hb1⟩; replace hb := Ext.trans hb hb1; clear hb1) | (go_at_call 18; refine (dist_any _ _ _).mono ?_; rintro e w1 ⟨rfl, hb1⟩; (first | replace hb := Ext.trans hb hb1 | replace hb := Ext.trans (Ext.trans hb (Ext.drewN _ _)) hb1 | replace hb := Ext.trans (Ext.trans hb (Ext.alloc _ _)) hb1 | have hb := hb1); clear hb1; obtain ⟨hc1, hf1⟩ := hb.old) | (go_at_call 14; refine (norm_any _ _).mono ?_; rintro e w1 ⟨rfl, hb1⟩; (first | replace hb := Ext.trans hb hb1 | replace hb := Ext.trans (Ext.trans hb (Ext.drewN _ _)) hb1 | replace hb := Ext.trans (Ext.trans hb (Ext.alloc _ _)) hb1 | have hb := hb1); clear hb1; obtain ⟨hc1, hf1⟩ := hb.old))
    go_ret
    exact ⟨rfl, (by repeat (first | exact Ext.refl _ | assumption | exact Ext.alloc _ _ | refine Ext.trans ?_ (by assumption) | refine Ext.trans ?_ (Ext.alloc _ _) | refine Ext.trans ?_ (Ext.drewN _ _) | refine Ext.trans ?_ (Ext.drew _)))⟩
  · have h0 : (dst a b == 0) = false := by simpa using fun h => hn ((dst_zero a b).1 h)
    have h1 : (nrm a == nrm b) = false := by simpa using hn
    clear hn
    go_enter Try.func9, Try.ntmps9
    go_wp2_with (first | (go_at_call 13; refine (awake_any _).mono ?_; rintro e w1 ⟨rfl, hb1⟩; (first | replace hb := Ext.trans hb hb1 | replace hb := Ext.trans (Ext.trans hb (Ext.drewN _ _)) hb1 | replace hb := Ext.trans (Ext.trans hb (Ext.alloc _ _)) hb1 | have hb := hb1); clear hb1; obtain ⟨hc1, hf1⟩ := hb.old) | (go_at_call 18; (with_reducible refine (dist_is b a _ _ HS.out).mono ?_); rintro e w1 ⟨rfl, hb1⟩; replace hb := Ext.trans hb hb1; clear hb1) | (go_at_call 18; refine (dist_any _ _ _).mono ?_; rintro e w1 ⟨rfl, hb1⟩; (first | replace hb := Ext.trans hb hb1 | replace hb := Ext.trans (Ext.trans hb (Ext.drewN _ _)) hb1 | replace hb := Ext.trans (Ext.trans hb (Ext.alloc _ _)) hb1 | have hb := hb1); clear hb1; obtain ⟨hc1, hf1⟩ := hb.old) | (go_at_call 14; refine (norm_any _ _).mono ?_; rintro e w1 ⟨rfl, hb1⟩; (first | replace hb := Ext.trans hb hb1 | replace hb := Ext.trans (Ext.trans hb (Ext.drewN _ _)) hb1 | replace hb := Ext.trans (Ext.trans hb (Ext.alloc _ _)) hb1 | have hb := hb1); clear hb1; obtain ⟨hc1, hf1⟩ := hb.old))
    go_ret
    exact ⟨rfl, (by repeat (first | exact Ext.refl _ | assumption | exact Ext.alloc _ _ | refine Ext.trans ?_ (by assumption) | refine Ext.trans ?_ (Ext.alloc _ _) | refine Ext.trans ?_ (Ext.drewN _ _) | refine Ext.trans ?_ (Ext.drew _)))⟩

theorem clip_is (n lo hi v : Int) (w : World) (hl : lo < hi) (h : clp n lo hi = v) : Calls Try.prog 33 #[I n, I lo, I hi] w fun e w' => e = .returned (I v) ∧ Ext w w' := by
  subst h; exact clip_any n lo hi w hl
theorem x_bd {X : Int} (h : -1099511627776 ≤ X) (h' : X ≤ 1099511627776) : -72057594037927936 ≤ X * 65536 ∧ X * 65536 ≤ 72057594037927936 := by omega

set_option maxRecDepth 100000 in
set_option maxHeartbeats 1000000 in
theorem cycle_law (a b x : Int) (w : World) : Calls Try.prog 8 #[I a, I b, I x] w fun e w' => e = .returned (.bool true) ∧ Ext w w' := by
  obtain ⟨a0, a1⟩ := clp_bd a (-1152921504606846976) 1152921504606846976 (by decide)
  obtain ⟨b0, b1⟩ := clp_bd b (-1152921504606846976) 1152921504606846976 (by decide)
  obtain ⟨x0, x1⟩ := clp_bd x (-1099511627776) 1099511627776 (by decide)
  generalize hA : clp a (-1152921504606846976) 1152921504606846976 = A at *
  generalize hB : clp b (-1152921504606846976) 1152921504606846976 = B at *
  generalize hX : clp x (-1099511627776) 1099511627776 = X at *
  have HA := Lib.hid hA; clear hA
  have HB := Lib.hid hB; clear hB
  have HX := Lib.hid hX; clear hX
  obtain ⟨n0, n1⟩ := nrm_bd A
  obtain ⟨d0, d1⟩ := dff_bd A B
  obtain ⟨m0, m1⟩ := x_bd x0 x1
  have E1 := Lib.hid (cyc_n A X)
  have E2 := Lib.hid (cyc_d A B X)
  have E3 := Lib.hid (cyc_b A B)
  have E4 := Lib.hid (cyc_t A B X)
  by_cases hm : dff A B = -32768
  · have h1 : (dff A B == -32768) = true := by simpa using hm
    clear hm
    go_enter Try.func8, Try.ntmps8
    go_wp2_with (first
      | (go_at_call 13; refine (awake_any _).mono ?_; rintro e w1 ⟨rfl, hb1⟩; (first | replace hb := Ext.trans hb hb1 | replace hb := Ext.trans (Ext.trans hb (Ext.drewN _ _)) hb1 | replace hb := Ext.trans (Ext.trans hb (Ext.alloc _ _)) hb1 | have hb := hb1); clear hb1; obtain ⟨hc1, hf1⟩ := hb.old)
      | (go_at_call 33; (with_reducible refine (clip_is a _ _ A _ (by decide) HA.out).mono ?_); rintro e w1 ⟨rfl, hb1⟩; replace hb := Ext.trans hb hb1; clear hb1)
      | (go_at_call 33; (with_reducible refine (clip_is b _ _ B _ (by decide) HB.out).mono ?_); rintro e w1 ⟨rfl, hb1⟩; replace hb := Ext.trans hb hb1; clear hb1)
      | (go_at_call 33; (with_reducible refine (clip_is x _ _ X _ (by decide) HX.out).mono ?_); rintro e w1 ⟨rfl, hb1⟩; replace hb := Ext.trans hb hb1; clear hb1)
      | (go_at_call 14; (first | (with_reducible refine (norm_any A _).mono ?_) | (with_reducible refine (norm_is _ _ _ E1.out).mono ?_) | (with_reducible refine (norm_is _ _ _ E3.out).mono ?_)); rintro e w1 ⟨rfl, hb1⟩; replace hb := Ext.trans hb hb1; clear hb1)
      | (go_at_call 16; (first | (with_reducible refine (diff_any A B _).mono ?_) | (with_reducible refine (diff_is _ _ _ _ E2.out).mono ?_) | (with_reducible refine (diff_is _ _ _ _ E4.out).mono ?_)); rintro e w1 ⟨rfl, hb1⟩; replace hb := Ext.trans hb hb1; clear hb1))
    go_ret
    exact ⟨rfl, (by repeat (first | exact Ext.refl _ | assumption | exact Ext.alloc _ _ | refine Ext.trans ?_ (by assumption) | refine Ext.trans ?_ (Ext.alloc _ _) | refine Ext.trans ?_ (Ext.drewN _ _) | refine Ext.trans ?_ (Ext.drew _)))⟩
  · have E5 := Lib.hid (cyc_s A B hm)
    have h1 : (dff A B == -32768) = false := by simpa using hm
    clear hm
    go_enter Try.func8, Try.ntmps8
    go_wp2_with (first
      | (go_at_call 13; refine (awake_any _).mono ?_; rintro e w1 ⟨rfl, hb1⟩; (first | replace hb := Ext.trans hb hb1 | replace hb := Ext.trans (Ext.trans hb (Ext.drewN _ _)) hb1 | replace hb := Ext.trans (Ext.trans hb (Ext.alloc _ _)) hb1 | have hb := hb1); clear hb1; obtain ⟨hc1, hf1⟩ := hb.old)
      | (go_at_call 33; (with_reducible refine (clip_is a _ _ A _ (by decide) HA.out).mono ?_); rintro e w1 ⟨rfl, hb1⟩; replace hb := Ext.trans hb hb1; clear hb1)
      | (go_at_call 33; (with_reducible refine (clip_is b _ _ B _ (by decide) HB.out).mono ?_); rintro e w1 ⟨rfl, hb1⟩; replace hb := Ext.trans hb hb1; clear hb1)
      | (go_at_call 33; (with_reducible refine (clip_is x _ _ X _ (by decide) HX.out).mono ?_); rintro e w1 ⟨rfl, hb1⟩; replace hb := Ext.trans hb hb1; clear hb1)
      | (go_at_call 14; (first | (with_reducible refine (norm_any A _).mono ?_) | (with_reducible refine (norm_is _ _ _ E1.out).mono ?_) | (with_reducible refine (norm_is _ _ _ E3.out).mono ?_)); rintro e w1 ⟨rfl, hb1⟩; replace hb := Ext.trans hb hb1; clear hb1)
      | (go_at_call 16; (first | (with_reducible refine (diff_any A B _).mono ?_) | (with_reducible refine (diff_is _ _ _ _ E2.out).mono ?_) | (with_reducible refine (diff_is _ _ _ _ E4.out).mono ?_) | (with_reducible refine (diff_is _ _ _ _ E5.out).mono ?_)); rintro e w1 ⟨rfl, hb1⟩; replace hb := Ext.trans hb hb1; clear hb1))
    go_ret
    exact ⟨rfl, (by repeat (first | exact Ext.refl _ | assumption | exact Ext.alloc _ _ | refine Ext.trans ?_ (by assumption) | refine Ext.trans ?_ (Ext.alloc _ _) | refine Ext.trans ?_ (Ext.drewN _ _) | refine Ext.trans ?_ (Ext.drew _)))⟩
end Go.Proofs.Ytfjkijpfkpcjdaa
