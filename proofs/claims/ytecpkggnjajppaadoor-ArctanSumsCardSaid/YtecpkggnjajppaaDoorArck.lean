/- The laws ArctanBack, ArctanBounds and ArctanQuarters. -/
import Derived.Test.YtecpkggnjajppaaDoorArci
namespace Go.Proofs.YtecpkggnjajppaaDoor
open Go.RowKit

theorem clip_to (n lo hi c : Int) (hl : lo < hi) (h : clp n lo hi = c) (w : World) : Calls Tryd.prog 21 #[I n, I lo, I hi] w fun e w' => e = .returned (I c) ∧ Ext w w' := by
  subst h; exact clip_any n lo hi w hl
theorem norm_to (n c : Int) (h : nrm n = c) (w : World) : Calls Tryd.prog 20 #[I n] w fun e w' => e = .returned (I c) ∧ Ext w w' := by
  subst h; exact rnorm_any n w
theorem rboth_to (n c s : Int) (hc : cs n = c) (hs : sn n = s) (w : World) : Calls Tryd.prog 22 #[I n] w fun e w' => e = .returned (.tuple #[I c, I s]) ∧ Ext w w' := by
  subst hc hs; exact rboth_any n w

set_option maxRecDepth 100000 in
set_option maxHeartbeats 1000000 in
theorem back_of (a n k c s z : Int) (w : World) (hT : TabS w) (n0 : 0 ≤ n) (n1 : n ≤ 4294967295) (hk : 1 + n % 16777216 = k) (hc : cs a = c) (hs : sn a = s) (hz : nrm a = z) : Calls Tryd.prog 6 #[I a, .int .u32 n] w fun e w' => e = .returned (.bool true) ∧ Ext w w' := by
  have k0 : 1 ≤ k := by omega
  have k1 : k ≤ 16777216 := by omega
  have b1 := k_bd k0 k1 (cs_bd a)
  have b2 := k_bd k0 k1 (sn_bd a)
  have hl := back_law (a := a) k0 k1
  have HB := Lib.hid (fun w hT => both_any a w hT)
  rw [hc, hs] at hl HB
  rw [hc] at b1
  rw [hs] at b2
  obtain ⟨p, hp⟩ : ∃ p, k * c = p := ⟨_, rfl⟩
  obtain ⟨q, hq⟩ : ∃ q, k * s = q := ⟨_, rfl⟩
  rw [hp, hq, hz] at hl
  rw [hp] at b1; rw [hq] at b2
  have HA := Lib.hid (ang_val p q z (in63 (by omega)) (in63 (by omega)) hl)
  have HN := Lib.hid (norm_to a z hz)
  have HT := Lib.hid hT
  have hk' : 1 + n.tmod 16777216 = k := by rw [Int.tmod_eq_emod_of_nonneg n0]; exact hk
  clear hT hl hc hs hz
  go_enter Tryd.func6, Tryd.ntmps6
  go_wp2_with (first
    | (go_at_call 12; refine (awake_any _ HT.out).mono ?_; rintro e w1 ⟨rfl, hb1⟩; (first | replace hb := Ext.trans hb hb1 | replace hb := Ext.trans (Ext.trans hb (Ext.drewN _ _)) hb1 | replace hb := Ext.trans (Ext.trans hb (Ext.alloc _ _)) hb1 | have hb := hb1); clear hb1; obtain ⟨hc1, hf1⟩ := hb.old)
    | (go_at_call 19; (with_reducible refine (HB.out _ (HT.out.ext hb)).mono ?_); rintro e w2 ⟨rfl, hb1⟩; replace hb := Ext.trans hb hb1; clear hb1)
    | (go_at_call 13; (with_reducible refine (HA.out _ (HT.out.ext hb)).mono ?_); rintro e w2 ⟨rfl, hb1⟩; replace hb := Ext.trans hb hb1; clear hb1)
    | (go_at_call 20; (with_reducible refine (HN.out _).mono ?_); rintro e w2 ⟨rfl, hb1⟩; replace hb := Ext.trans hb hb1; clear hb1))
  go_ret
  exact ⟨rfl, hb⟩
theorem back_law' (a n : Int) (w : World) (hT : TabS w) (n0 : 0 ≤ n) (n1 : n ≤ 4294967295) : Calls Tryd.prog 6 #[I a, .int .u32 n] w fun e w' => e = .returned (.bool true) ∧ Ext w w' :=
  back_of a n _ _ _ _ w hT n0 n1 rfl rfl rfl rfl

theorem ang_00 : ang 0 0 = 0 := by
  have : ang 0 0 = ang0 1 0 := by unfold ang; rw [vx_0.1, vx_0.2]
  rw [this, ← ang_small (x := 1) (y := 0) (by omega) (by decide)]
  exact ang_ex (by decide) (by decide +kernel) (by decide +kernel) (by omega) (by omega)
theorem dir_bd {c x : Int} (hc : -32768 ≤ c ∧ c ≤ 32768) (hx : -1099511627776 ≤ x ∧ x ≤ 1099511627776) : -36028797018963968 ≤ c * x ∧ c * x ≤ 36028797018963968 := by
  rcases (show 0 ≤ x ∨ x ≤ 0 by omega) with h | h
  · have a := Int.mul_le_mul_of_nonneg_right hc.1 h
    have b := Int.mul_le_mul_of_nonneg_right hc.2 h
    omega
  · have a := Int.mul_le_mul_of_nonneg_right hc.1 (show 0 ≤ -x by omega)
    have b := Int.mul_le_mul_of_nonneg_right hc.2 (show 0 ≤ -x by omega)
    have e : c * -x = -(c * x) := Int.mul_neg _ _
    rw [e] at a b
    omega

set_option maxRecDepth 100000 in
set_option maxHeartbeats 1000000 in
theorem bounds_of (x y X Y a c s u v : Int) (w : World) (hT : TabS w) (h1 : clp x (-1099511627776) 1099511627776 = X) (h2 : clp y (-1099511627776) 1099511627776 = Y) (ha : ang X Y = a) (hc : cs a = c) (hs : sn a = s) (hu : cs (a + 1) = u) (hv : sn (a + 1) = v) :
    Calls Tryd.prog 7 #[I x, I y] w fun e w' => e = .returned (.bool true) ∧ Ext w w' := by
  have b1 := clp_bd x (-1099511627776) 1099511627776 (by omega)
  have b2 := clp_bd y (-1099511627776) 1099511627776 (by omega)
  have C1 := Lib.hid (clip_to x (-1099511627776) 1099511627776 X (by omega) h1)
  have C2 := Lib.hid (clip_to y (-1099511627776) 1099511627776 Y (by omega) h2)
  rw [h1] at b1; rw [h2] at b2
  have HA := Lib.hid (ang_val X Y a (in63 b1) (in63 b2) ha)
  have HT := Lib.hid hT
  clear hT h1 h2
  by_cases h0 : X = 0 ∧ Y = 0
  · obtain ⟨rfl, rfl⟩ := h0
    rw [ang_00] at ha
    subst ha
    go_enter Tryd.func7, Tryd.ntmps7
    go_wp2_with (first
      | (go_at_call 12; refine (awake_any _ HT.out).mono ?_; rintro e w1 ⟨rfl, hb1⟩; (first | replace hb := Ext.trans hb hb1 | replace hb := Ext.trans (Ext.trans hb (Ext.drewN _ _)) hb1 | replace hb := Ext.trans (Ext.trans hb (Ext.alloc _ _)) hb1 | have hb := hb1); clear hb1; obtain ⟨hc1, hf1⟩ := hb.old)
      | (go_at_call 21; (first | (with_reducible refine (C1.out _).mono ?_) | (with_reducible refine (C2.out _).mono ?_)); rintro e w2 ⟨rfl, hb1⟩; replace hb := Ext.trans hb hb1; clear hb1)
      | (go_at_call 13; (with_reducible refine (HA.out _ (HT.out.ext hb)).mono ?_); rintro e w2 ⟨rfl, hb1⟩; replace hb := Ext.trans hb hb1; clear hb1))
    go_ret
    exact ⟨rfl, hb⟩
  · obtain ⟨l1, l2, l3⟩ := bounds_law h0 (not_big b1 b2)
    obtain ⟨a0, a1⟩ := ang_bd X Y
    rw [ha] at l1 l2 l3 a0 a1
    unfold crs at l1 l2
    unfold dot at l3
    have HB := Lib.hid (rboth_to a c s hc hs)
    have HC := Lib.hid (rboth_to (a + 1) u v hu hv)
    have p1 := dir_bd (cs_bd a) b2
    have p2 := dir_bd (sn_bd a) b1
    have p3 := dir_bd (cs_bd (a + 1)) b2
    have p4 := dir_bd (sn_bd (a + 1)) b1
    have p5 := dir_bd (cs_bd a) b1
    have p6 := dir_bd (sn_bd a) b2
    rw [hc, hs] at l1 l3
    rw [hu, hv] at l2
    rw [hc] at p1 p5; rw [hs] at p2 p6; rw [hu] at p3; rw [hv] at p4
    obtain ⟨P1, e1⟩ : ∃ P, c * Y = P := ⟨_, rfl⟩
    obtain ⟨P2, e2⟩ : ∃ P, s * X = P := ⟨_, rfl⟩
    obtain ⟨P3, e3⟩ : ∃ P, u * Y = P := ⟨_, rfl⟩
    obtain ⟨P4, e4⟩ : ∃ P, v * X = P := ⟨_, rfl⟩
    obtain ⟨P5, e5⟩ : ∃ P, c * X = P := ⟨_, rfl⟩
    obtain ⟨P6, e6⟩ : ∃ P, s * Y = P := ⟨_, rfl⟩
    rw [e1, e2] at l1; rw [e3, e4] at l2; rw [e5, e6] at l3
    rw [e1] at p1; rw [e2] at p2; rw [e3] at p3; rw [e4] at p4; rw [e5] at p5; rw [e6] at p6
    clear ha hc hs hu hv
    have h00 : ¬ X = 0 ∨ (X = 0 ∧ ¬ Y = 0) := by omega
    clear h0
    have q1 : -1152921504606846976 ≤ P1 - P2 ∧ P1 - P2 ≤ 1152921504606846976 := by omega
    have q2 : -1152921504606846976 ≤ P3 - P4 ∧ P3 - P4 ≤ 1152921504606846976 := by omega
    have q3 : -1152921504606846976 ≤ P5 + P6 ∧ P5 + P6 ≤ 1152921504606846976 := by omega
    rcases h00 with h00 | ⟨rfl, h01⟩
    all_goals
      first
        | (rw [Int.mul_zero] at e2 e4 e5; subst e2 e4 e5; have m1 : 0 ≤ P1 := by omega
           have m2 : P3 < 0 := by omega
           have m3 : 0 < P6 := by omega
           clear l1 l2 l3 q1 q2 q3)
        | skip
      go_enter Tryd.func7, Tryd.ntmps7
      go_wp2_with (first
        | (go_at_call 12; refine (awake_any _ HT.out).mono ?_; rintro e w1 ⟨rfl, hb1⟩; (first | replace hb := Ext.trans hb hb1 | replace hb := Ext.trans (Ext.trans hb (Ext.drewN _ _)) hb1 | replace hb := Ext.trans (Ext.trans hb (Ext.alloc _ _)) hb1 | have hb := hb1); clear hb1; obtain ⟨hc1, hf1⟩ := hb.old)
        | (go_at_call 21; (first | (with_reducible refine (C1.out _).mono ?_) | (with_reducible refine (C2.out _).mono ?_)); rintro e w2 ⟨rfl, hb1⟩; replace hb := Ext.trans hb hb1; clear hb1)
        | (go_at_call 13; (with_reducible refine (HA.out _ (HT.out.ext hb)).mono ?_); rintro e w2 ⟨rfl, hb1⟩; replace hb := Ext.trans hb hb1; clear hb1)
        | (go_at_call 22; (first | (with_reducible refine (HB.out _).mono ?_) | (with_reducible refine (HC.out _).mono ?_)); rintro e w2 ⟨rfl, hb1⟩; replace hb := Ext.trans hb hb1; clear hb1))
      go_ret
      exact ⟨rfl, hb⟩
theorem bounds_law' (x y : Int) (w : World) (hT : TabS w) : Calls Tryd.prog 7 #[I x, I y] w fun e w' => e = .returned (.bool true) ∧ Ext w w' :=
  bounds_of x y _ _ _ _ _ _ _ w hT rfl rfl rfl rfl rfl rfl rfl

theorem kx_bd {k x : Int} (h0 : 1 ≤ k) (h1 : k ≤ 256) (hx : -4294967296 ≤ x ∧ x ≤ 4294967296) : -1099511627776 ≤ k * x ∧ k * x ≤ 1099511627776 := by
  rcases (show 0 ≤ x ∨ x ≤ 0 by omega) with h | h
  · have a := Int.mul_le_mul_of_nonneg_right h1 h
    have b := Int.mul_nonneg (show 0 ≤ k by omega) h
    omega
  · have a := Int.mul_le_mul_of_nonneg_right h1 (show 0 ≤ -x by omega)
    have b := Int.mul_nonneg (show 0 ≤ k by omega) (show 0 ≤ -x by omega)
    have e : k * -x = -(k * x) := Int.mul_neg _ _
    rw [e] at a b
    omega

set_option maxRecDepth 100000 in
set_option maxHeartbeats 1000000 in
theorem quarters_of (x y n X Y k a b c d m p q : Int) (w : World) (hT : TabS w) (n0 : 0 ≤ n) (n1 : n ≤ 255) (h1 : clp x (-4294967296) 4294967296 = X) (h2 : clp y (-4294967296) 4294967296 = Y) (hk : 1 + n = k)
    (ha : ang X Y = a) (hb' : ang X (-Y) = b) (hc : ang (-Y) X = c) (hd : ang (-X) (-Y) = d) (hm : nrm (a + b) = m) (hp : k * X = p) (hq : k * Y = q) :
    Calls Tryd.prog 10 #[I x, I y, .int .u8 n] w fun e w' => e = .returned (.bool true) ∧ Ext w w' := by
  have b1 := clp_bd x (-4294967296) 4294967296 (by omega)
  have b2 := clp_bd y (-4294967296) 4294967296 (by omega)
  have C1 := Lib.hid (clip_to x (-4294967296) 4294967296 X (by omega) h1)
  have C2 := Lib.hid (clip_to y (-4294967296) 4294967296 Y (by omega) h2)
  rw [h1] at b1; rw [h2] at b2
  have HT := Lib.hid hT
  clear hT h1 h2
  have k0 : 1 ≤ k := by omega
  have k1 : k ≤ 256 := by omega
  by_cases h0 : X = 0 ∧ Y = 0
  · obtain ⟨rfl, rfl⟩ := h0
    clear ha hb' hc hd hm hp hq
    go_enter Tryd.func10, Tryd.ntmps10
    go_wp2_with (first
      | (go_at_call 12; refine (awake_any _ HT.out).mono ?_; rintro e w1 ⟨rfl, hb1⟩; (first | replace hb := Ext.trans hb hb1 | replace hb := Ext.trans (Ext.trans hb (Ext.drewN _ _)) hb1 | replace hb := Ext.trans (Ext.trans hb (Ext.alloc _ _)) hb1 | have hb := hb1); clear hb1; obtain ⟨hc1, hf1⟩ := hb.old)
      | (go_at_call 21; (first | (with_reducible refine (C1.out _).mono ?_) | (with_reducible refine (C2.out _).mono ?_)); rintro e w2 ⟨rfl, hb1⟩; replace hb := Ext.trans hb hb1; clear hb1))
    go_ret
    exact ⟨rfl, hb⟩
  · have nb : ¬ big X Y := not_big (by omega) (by omega)
    have p1 := kx_bd k0 k1 b1
    have p2 := kx_bd k0 k1 b2
    have l1 := quarter_law h0 nb
    have l2 := half_law h0 nb
    have l3 := times_law h0 nb (show 0 < k by omega) (not_big p1 p2)
    have l4 := mirror_law h0 nb
    obtain ⟨a0, a1⟩ := ang_bd X Y
    obtain ⟨a2, a3⟩ := ang_bd X (-Y)
    rw [ha] at a0 a1 l1 l2 l3 l4
    rw [hb'] at a2 a3 l4
    rw [hp] at p1 l3; rw [hq] at p2 l3
    rw [hm] at l4
    rw [hc] at l1; rw [hd] at l2
    have A1 := Lib.hid (ang_val X Y a (in63 (by omega)) (in63 (by omega)) ha)
    have A2 := Lib.hid (ang_val X (-Y) b (in63 (by omega)) (in63 (by omega)) hb')
    have A3 := Lib.hid (ang_val (-Y) X c (in63 (by omega)) (in63 (by omega)) hc)
    have A4 := Lib.hid (ang_val (-X) (-Y) d (in63 (by omega)) (in63 (by omega)) hd)
    have A5 := Lib.hid (ang_val p q a (in63 (by omega)) (in63 (by omega)) l3)
    have N1 := Lib.hid (norm_to (a + b) m hm)
    have N2 := Lib.hid (norm_to (a + 16384) c l1.symm)
    have N3 := Lib.hid (norm_to (a + 32768) d l2.symm)
    have hbd : X = 0 → b = d := fun e => by rw [← hb', ← hd, e]; rfl
    clear ha hb' hc hd hm l1 l2 l3 nb
    have h00 : ¬ X = 0 ∨ (X = 0 ∧ ¬ Y = 0) := by omega
    clear h0
    rcases h00 with h00 | ⟨rfl, h01⟩ <;> rcases l4 with rfl | rfl
    all_goals
      first
        | (rw [Int.mul_zero] at hp; subst hp; simp only [Int.neg_zero] at A4; have hbe := hbd rfl; subst hbe; clear hbd)
        | clear hbd
      go_enter Tryd.func10, Tryd.ntmps10
      go_wp2_with (first
        | (go_at_call 12; refine (awake_any _ HT.out).mono ?_; rintro e w1 ⟨rfl, hb1⟩; (first | replace hb := Ext.trans hb hb1 | replace hb := Ext.trans (Ext.trans hb (Ext.drewN _ _)) hb1 | replace hb := Ext.trans (Ext.trans hb (Ext.alloc _ _)) hb1 | have hb := hb1); clear hb1; obtain ⟨hc1, hf1⟩ := hb.old)
        | (go_at_call 21; (first | (with_reducible refine (C1.out _).mono ?_) | (with_reducible refine (C2.out _).mono ?_)); rintro e w2 ⟨rfl, hb1⟩; replace hb := Ext.trans hb hb1; clear hb1)
        | (go_at_call 13; (first | (with_reducible refine (A1.out _ (HT.out.ext hb)).mono ?_) | (with_reducible refine (A2.out _ (HT.out.ext hb)).mono ?_) | (with_reducible refine (A3.out _ (HT.out.ext hb)).mono ?_) | (with_reducible refine (A4.out _ (HT.out.ext hb)).mono ?_) | (with_reducible refine (A5.out _ (HT.out.ext hb)).mono ?_)); rintro e w2 ⟨rfl, hb1⟩; replace hb := Ext.trans hb hb1; clear hb1)
        | (go_at_call 20; (first | (with_reducible refine (N1.out _).mono ?_) | (with_reducible refine (N2.out _).mono ?_) | (with_reducible refine (N3.out _).mono ?_)); rintro e w2 ⟨rfl, hb1⟩; replace hb := Ext.trans hb hb1; clear hb1))
      go_ret
      exact ⟨rfl, hb⟩
theorem quarters_law' (x y n : Int) (w : World) (hT : TabS w) (n0 : 0 ≤ n) (n1 : n ≤ 255) : Calls Tryd.prog 10 #[I x, I y, .int .u8 n] w fun e w' => e = .returned (.bool true) ∧ Ext w w' :=
  quarters_of x y n _ _ _ _ _ _ _ _ _ _ w hT n0 n1 rfl rfl rfl rfl rfl rfl rfl rfl rfl rfl
end Go.Proofs.YtecpkggnjajppaaDoor
