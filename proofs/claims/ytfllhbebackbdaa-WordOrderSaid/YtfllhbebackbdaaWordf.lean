/- Products: the reference's Dot of one element, and Mul. -/
import Derived.Test.YtfllhbebackbdaaWorde
namespace Go.Proofs.Ytfllhbebackbdaa
open Go.RowKit

def mulF (b s x y n m : Int) : Int × Bool × Int :=
  if pairF b s x y = 0 ∧ 0 ≤ n ∧ n ≤ 62 ∧ 0 ≤ m ∧ m ≤ 3 then (clipF b (rnd (x * y) n m), cutF b (rnd (x * y) n m), 0) else (0, false, 3)

theorem mul_bd {x y : Int} (bx : -2147483648 ≤ x ∧ x ≤ 2147483647) (by' : -2147483648 ≤ y ∧ y ≤ 2147483647) : -4611686018427387904 ≤ x * y ∧ x * y ≤ 4611686018427387904 := by
  have h : (x * y).natAbs ≤ 2147483648 * 2147483648 := by
    rw [Int.natAbs_mul]; exact Nat.mul_le_mul (by omega) (by omega)
  omega
theorem mulF_ok {b s x y n m p : Int} (h : pairF b s x y = 0) (hp : x * y = p) (h1 : 0 ≤ n) (h2 : n ≤ 62) (h3 : 0 ≤ m) (h4 : m ≤ 3) : mulF b s x y n m = (clipF b (rnd p n m), cutF b (rnd p n m), 0) := by
  unfold mulF; rw [if_pos ⟨h, h1, h2, h3, h4⟩, hp]
theorem mulF_bad {b s x y n m : Int} (h : ¬ (0 ≤ n ∧ n ≤ 62 ∧ 0 ≤ m ∧ m ≤ 3)) : mulF b s x y n m = (0, false, 3) := by
  unfold mulF; rw [if_neg (fun hh => h hh.2)]
theorem mulF_pair {b s x y n m : Int} (h : ¬ pairF b s x y = 0) : mulF b s x y n m = (0, false, 3) := by
  unfold mulF; rw [if_neg (fun hh => h hh.1)]

theorem rnd_ge (x n m : Int) : x / 2 ^ n.toNat ≤ rnd x n m := by
  unfold rnd rndQ; split <;> omega
theorem clip_gt {b z : Int} (h : hiW b < z) : clipF b z = hiW b ∧ cutF b z = true := by
  have hl := lohi b
  have e : clipF b z = hiW b := by unfold clipF; rw [if_neg (by omega), if_pos h]
  refine ⟨e, ?_⟩
  unfold cutF; rw [e]; simp; omega
theorem rnd_top {n m : Int} (h1 : n < 32) : 2147483648 ≤ rnd 4611686018427387904 n m := by
  have p1 := pow_pos n.toNat
  have p2 : (2 : Int) ^ n.toNat ≤ 2147483648 := by have := pow_le (j := n.toNat) (k := 31) (by omega); simpa using this
  have : (2147483648 : Int) ≤ 4611686018427387904 / 2 ^ n.toNat := Int.le_ediv_of_mul_le (by omega) (by omega)
  have := rnd_ge 4611686018427387904 n m
  omega
theorem rnd31 (p m : Int) : rnd p 31 m = rndQ m (p / 2147483648) (p % 2147483648) 2147483648 := by
  unfold rnd
  show rndQ m (p / 2 ^ 31) (p % 2 ^ 31) (2 ^ 31) = _
  rw [show (2 : Int) ^ 31 = 2147483648 by decide]

theorem high_facts (p n : Int) (h1 : 32 ≤ n) (h2 : n ≤ 62) :
    p / 2 ^ n.toNat = p / 4294967296 / 2 ^ (n - 32).toNat ∧ p % 2 ^ n.toNat = p / 4294967296 % 2 ^ (n - 32).toNat * 4294967296 + p % 4294967296 ∧ (2 : Int) ^ n.toNat = 2 ^ (n - 32).toNat * 4294967296 := by
  obtain ⟨k, rfl⟩ : ∃ k : Nat, n = (k : Int) + 32 := ⟨(n - 32).toNat, by omega⟩
  have e1 : ((k : Int) + 32).toNat = 32 + k := by omega
  have e2 : ((k : Int) + 32 - 32).toNat = k := by omega
  rw [e1, e2]
  have e3 : (2 : Int) ^ (32 + k) = 4294967296 * 2 ^ k := by rw [Int.pow_add]; rfl
  have p1 := pow_pos k
  have d : p / 2 ^ (32 + k) = p / 4294967296 / 2 ^ k := by rw [e3, Int.ediv_ediv_of_nonneg (by decide)]
  refine ⟨d, ?_, by rw [e3, Int.mul_comm]⟩
  have m1 := Int.mul_ediv_add_emod p (2 ^ (32 + k))
  have m2 := Int.mul_ediv_add_emod p 4294967296
  have m3 := Int.mul_ediv_add_emod (p / 4294967296) (2 ^ k)
  rw [d, e3] at m1
  rw [e3]
  have m4 : 4294967296 * 2 ^ k * (p / 4294967296 / 2 ^ k) = 4294967296 * (2 ^ k * (p / 4294967296 / 2 ^ k)) := Int.mul_assoc _ _ _
  rw [m4] at m1
  have m5 : 2 ^ k * (p / 4294967296 / 2 ^ k) = p / 4294967296 - p / 4294967296 % 2 ^ k := by omega
  rw [m5] at m1
  omega

set_option maxRecDepth 100000 in
set_option maxHeartbeats 1000000 in
theorem rdot1 (b s x y n m : Int) (w : World) (ba bb : Nat) (ha : ba < w.heap.size) (hb' : bb < w.heap.size) (ca : w.cell? ⟨ba, 0, none⟩ = some (I x)) (cb : w.cell? ⟨bb, 0, none⟩ = some (I y))
   (hv : chkF b s = 0) (hx : inB b x = true) (hy : inB b y = true) :
    Calls Try.prog 45 #[fmt b s, .slice (some ⟨ba, 0, none⟩) 1 1, .slice (some ⟨bb, 0, none⟩) 1 1, I n, I m] w fun e w' => e = .returned (ref3 (mulF b s x y n m)) ∧ Ext w w' := by
  obtain ⟨h1, h2, _, _⟩ := chk_of hv
  have ix : isF b s x = true := by rw [isF_ok hv, hx]
  have iy : isF b s y = true := by rw [isF_ok hv, hy]
  have hv' : (chkF b s != 0) = false := by simpa using hv
  have bp := mul_bd (inB_bd h2 hx) (inB_bd h2 hy)
  have HP := Lib.hid (pair_ok hv hx hy)
  have HV := Lib.hid hv; clear hv hx hy
  obtain ⟨p, hp⟩ : ∃ p, x * y = p := ⟨_, rfl⟩
  rw [hp] at bp
  obtain ⟨bp1, bp2⟩ := bp
  have hk : bits .and .i64 p 4294967295 = p % 4294967296 := and_mask (k := 32) (by omega)
  have ha2 : ba < w.heap.size + 1 := by omega
  have hb2 : bb < w.heap.size + 1 := by omega
  have ha3 : ba ≠ w.heap.size := by omega
  have hb3 : bb ≠ w.heap.size := by omega
  go_enter Try.func45, Try.ntmps45
  go_wp2_with (first
    | (go_at_call 15; refine (rcheck_any _ _ _).mono ?_; rintro e w1 ⟨rfl, hb1⟩; (first | replace hb := Ext.trans hb hb1 | replace hb := Ext.trans (Ext.trans hb (Ext.drewN _ _)) hb1 | replace hb := Ext.trans (Ext.trans hb (Ext.alloc _ _)) hb1 | have hb := hb1); clear hb1; obtain ⟨hc1, hf1⟩ := hb.old))
  go_loopw [14, 15, 38] (fun hi lo k wr => Ext (w.alloc (.cells #[I b, I s] 23)) wr ∧ (k = I 0 ∧ hi = I 0 ∧ lo = I 0 ∨ k = I 1 ∧ hi = I (p / 4294967296) ∧ lo = I (p % 4294967296))) (fun _ _ k _ => 1 - (intOf k).toNat)
  case atStart => exact ⟨(by repeat (first | exact Ext.refl _ | assumption | exact Ext.alloc _ _ | refine Ext.trans ?_ (by assumption) | refine Ext.trans ?_ (Ext.alloc _ _) | refine Ext.trans ?_ (Ext.drewN _ _) | refine Ext.trans ?_ (Ext.drew _))), .inl ⟨rfl, rfl, rfl⟩⟩
  case round =>
    clear hb
    obtain ⟨hb, ⟨rfl, rfl, rfl⟩ | ⟨rfl, rfl, rfl⟩⟩ := hrel
    · obtain ⟨hc, hf⟩ := hb.old
      go_wp2_with fail
      have hL := fun (x : Later _) => (Ext.trans hb x.ext).old.1
      refine wp_region_later (by kernel_rfl) (by kernel_rfl) ?_
      repeat (go_big_quiet_step (((go_at_call 44; exact Calls.later (is_any _ _ _ _)))))
      refine wpQuiet_nil ?_
      intro w2 hw2
      replace hb := Ext.trans hb (Later.of hw2)
      clear hw2 hL
      obtain ⟨hc, hf⟩ := hb.old
      go_wp2_with fail
      go_quiet (fail)
      go_wp2_with fail
      go_quiet (fail)
      go_wp2_with fail
      go_roundw
      case rel => exact ⟨(by repeat (first | exact Ext.refl _ | assumption | exact Ext.alloc _ _ | refine Ext.trans ?_ (by assumption) | refine Ext.trans ?_ (Ext.alloc _ _) | refine Ext.trans ?_ (Ext.drewN _ _) | refine Ext.trans ?_ (Ext.drew _))), .inr ⟨rfl, rfl, rfl⟩⟩
      case measure => simp [intOf]
    · obtain ⟨hc, hf⟩ := hb.old
      have k1 : p % 4294967296 / 4294967296 = 0 := by omega
      have k2 : bits .and .i64 (p % 4294967296) 4294967295 = p % 4294967296 := by rw [show (4294967295 : Int) = 2 ^ 32 - 1 by decide, and_mask (by omega)]; omega
      by_cases hn : 0 ≤ n ∧ n ≤ 62 ∧ 0 ≤ m ∧ m ≤ 3
      · obtain ⟨n1, n2, m1, m2⟩ := hn
        have HM := Lib.hid (okM_t m1 m2)
        have HR := Lib.hid (mulF_ok HP.out hp n1 n2 m1 m2)
        by_cases c1 : n < 31 ∧ p < 4611686018427387904
        · obtain ⟨c1, c2⟩ := c1
          have k3 : p / 4294967296 * 4294967296 + p % 4294967296 = p := by omega
          have hI : Hid (In64 p) := ⟨by omega, by omega⟩
          go_wp2_with (first | (go_at_call 41; refine (mode_is _ _ _ HM.out).mono ?_; rintro e w1 ⟨rfl, hb1⟩; (first | replace hb := Ext.trans hb hb1 | replace hb := Ext.trans (Ext.trans hb (Ext.drewN _ _)) hb1 | replace hb := Ext.trans (Ext.trans hb (Ext.alloc _ _)) hb1 | have hb := hb1); clear hb1; obtain ⟨hc1, hf1⟩ := hb.old))
          have hL := fun (x : Later _) => (Ext.trans hb x.ext).old.1
          refine wp_region_later (by kernel_rfl) (by kernel_rfl) ?_
          repeat (go_big_quiet_step ((first | (go_at_call 42; exact Calls.later (rround_any _ _ _ _ hI.out n1 n2 m1 m2)) | (go_at_call 20; exact Calls.later (rclip_any _ _ _ _ h1 h2)))))
          refine wpQuiet_nil ?_
          intro w2 hw2
          replace hb := Ext.trans hb (Later.of hw2)
          clear hw2 hL
          obtain ⟨hc, hf⟩ := hb.old
          go_wp2
          go_ret3
          exact ⟨by rw [HR.out]; rfl, (by repeat (first | exact Ext.refl _ | assumption | exact Ext.alloc _ _ | refine Ext.trans ?_ (by assumption) | refine Ext.trans ?_ (Ext.alloc _ _) | refine Ext.trans ?_ (Ext.drewN _ _) | refine Ext.trans ?_ (Ext.drew _)))⟩
        · have c3 : ¬ n < 31 ∨ p = 4611686018427387904 := by omega
          clear c1
          by_cases c4 : p = 4611686018427387904 ∧ n < 32
          · obtain ⟨c4, c5⟩ := c4
            subst c4
            clear c3
            have hh := powW b h2
            have HC := Lib.hid (clip_gt (b := b) (z := rnd 4611686018427387904 n m) (by have := rnd_top (m := m) c5; unfold hiW; omega))
            clear hh hk k1 k2
            go_wp2_with (first | (go_at_call 41; refine (mode_is _ _ _ HM.out).mono ?_; rintro e w1 ⟨rfl, hb1⟩; (first | replace hb := Ext.trans hb hb1 | replace hb := Ext.trans (Ext.trans hb (Ext.drewN _ _)) hb1 | replace hb := Ext.trans (Ext.trans hb (Ext.alloc _ _)) hb1 | have hb := hb1); clear hb1; obtain ⟨hc1, hf1⟩ := hb.old) | (go_at_call 22; refine (greatest_any _ _ _ h1 h2).mono ?_; rintro e w1 ⟨rfl, hb1⟩; (first | replace hb := Ext.trans hb hb1 | replace hb := Ext.trans (Ext.trans hb (Ext.drewN _ _)) hb1 | replace hb := Ext.trans (Ext.trans hb (Ext.alloc _ _)) hb1 | have hb := hb1); clear hb1; obtain ⟨hc1, hf1⟩ := hb.old))
            go_ret3
            exact ⟨by rw [HR.out, HC.out.1, HC.out.2]; rfl, (by repeat (first | exact Ext.refl _ | assumption | exact Ext.alloc _ _ | refine Ext.trans ?_ (by assumption) | refine Ext.trans ?_ (Ext.alloc _ _) | refine Ext.trans ?_ (Ext.drewN _ _) | refine Ext.trans ?_ (Ext.drew _)))⟩
          · by_cases c6 : n = 31
            · subst c6
              have c7 : p < 4611686018427387904 := by omega
              clear c3 c4
              have k4 : bits .and .i64 (p % 4294967296) 2147483647 = p % 2147483648 := by rw [show (2147483647 : Int) = 2 ^ 31 - 1 by decide, and_mask (by omega)]; omega
              have k5 : 2 * (p / 4294967296) + p % 4294967296 / 2147483648 = p / 2147483648 := by omega
              have k6 : 0 ≤ p % 2147483648 := by omega
              have k7 : p % 2147483648 < 2147483648 := by omega
              have k8 : decide (p / 4294967296 < 0) = decide (p / 2147483648 < 0) := by simp; omega
              have K8 := Lib.hid k8; clear k8
              by_cases hu : upB m (p / 2147483648) (p % 2147483648) 2147483648 = true
              · have HU := Lib.hid ((rnd31 p m).trans (rndQ_up hu))
                go_wp2_with (first | (go_at_call 41; refine (mode_is _ _ _ HM.out).mono ?_; rintro e w1 ⟨rfl, hb1⟩; (first | replace hb := Ext.trans hb hb1 | replace hb := Ext.trans (Ext.trans hb (Ext.drewN _ _)) hb1 | replace hb := Ext.trans (Ext.trans hb (Ext.alloc _ _)) hb1 | have hb := hb1); clear hb1; obtain ⟨hc1, hf1⟩ := hb.old) | (go_at_call 47; refine (up_any _ _ _ _ _ _ k6 k7 (by omega) m1 m2 K8.out).mono ?_; rintro e w1 ⟨rfl, hb1⟩; (first | replace hb := Ext.trans hb hb1 | replace hb := Ext.trans (Ext.trans hb (Ext.drewN _ _)) hb1 | replace hb := Ext.trans (Ext.trans hb (Ext.alloc _ _)) hb1 | have hb := hb1); clear hb1; obtain ⟨hc1, hf1⟩ := hb.old) | (go_at_call 20; refine (rclip_any _ _ _ _ h1 h2).mono ?_; rintro e w1 ⟨rfl, hb1⟩; (first | replace hb := Ext.trans hb hb1 | replace hb := Ext.trans (Ext.trans hb (Ext.drewN _ _)) hb1 | replace hb := Ext.trans (Ext.trans hb (Ext.alloc _ _)) hb1 | have hb := hb1); clear hb1; obtain ⟨hc1, hf1⟩ := hb.old))
                go_ret3
                exact ⟨by rw [HR.out, HU.out]; rfl, (by repeat (first | exact Ext.refl _ | assumption | exact Ext.alloc _ _ | refine Ext.trans ?_ (by assumption) | refine Ext.trans ?_ (Ext.alloc _ _) | refine Ext.trans ?_ (Ext.drewN _ _) | refine Ext.trans ?_ (Ext.drew _)))⟩
              · replace hu : upB m (p / 2147483648) (p % 2147483648) 2147483648 = false := by simpa using hu
                have HU := Lib.hid ((rnd31 p m).trans (rndQ_dn hu))
                go_wp2_with (first | (go_at_call 41; refine (mode_is _ _ _ HM.out).mono ?_; rintro e w1 ⟨rfl, hb1⟩; (first | replace hb := Ext.trans hb hb1 | replace hb := Ext.trans (Ext.trans hb (Ext.drewN _ _)) hb1 | replace hb := Ext.trans (Ext.trans hb (Ext.alloc _ _)) hb1 | have hb := hb1); clear hb1; obtain ⟨hc1, hf1⟩ := hb.old) | (go_at_call 47; refine (up_any _ _ _ _ _ _ k6 k7 (by omega) m1 m2 K8.out).mono ?_; rintro e w1 ⟨rfl, hb1⟩; (first | replace hb := Ext.trans hb hb1 | replace hb := Ext.trans (Ext.trans hb (Ext.drewN _ _)) hb1 | replace hb := Ext.trans (Ext.trans hb (Ext.alloc _ _)) hb1 | have hb := hb1); clear hb1; obtain ⟨hc1, hf1⟩ := hb.old) | (go_at_call 20; refine (rclip_any _ _ _ _ h1 h2).mono ?_; rintro e w1 ⟨rfl, hb1⟩; (first | replace hb := Ext.trans hb hb1 | replace hb := Ext.trans (Ext.trans hb (Ext.drewN _ _)) hb1 | replace hb := Ext.trans (Ext.trans hb (Ext.alloc _ _)) hb1 | have hb := hb1); clear hb1; obtain ⟨hc1, hf1⟩ := hb.old))
                go_ret3
                exact ⟨by rw [HR.out, HU.out]; rfl, (by repeat (first | exact Ext.refl _ | assumption | exact Ext.alloc _ _ | refine Ext.trans ?_ (by assumption) | refine Ext.trans ?_ (Ext.alloc _ _) | refine Ext.trans ?_ (Ext.drewN _ _) | refine Ext.trans ?_ (Ext.drew _)))⟩
            · have c7 : 32 ≤ n := by omega
              clear c3 c4 c6
              obtain ⟨e1, e2, e3⟩ := high_facts p n c7 n2
              have hH : In64 (p / 4294967296) := ⟨by omega, by omega⟩
              obtain ⟨p1, p2, f1, f2, f3, f4, f5, f6, f7⟩ := shr_facts (k := (n - 32).toNat) hH (by omega)
              have p3 : (2 : Int) ^ (n - 32).toNat ≤ 1073741824 := by have := pow_le (j := (n - 32).toNat) (k := 30) (by omega); simpa using this
              have hq : p / 4294967296 / 2 ^ (n - 32).toNat ≤ 1073741824 := by
                by_cases h0 : 0 ≤ p / 4294967296
                · have := Int.ediv_le_self (2 ^ (n - 32).toNat) h0; omega
                · have := Int.ediv_neg_of_neg_of_pos (show p / 4294967296 < 0 by omega) (show (0 : Int) < 2 ^ (n - 32).toNat by omega); omega
              have F7 := Lib.hid (show decide (p / 4294967296 < 0) = decide (p / 4294967296 / 2 ^ (n - 32).toNat < 0) by simp [f7])
              have g0 : 0 ≤ p / 4294967296 % 2 ^ (n - 32).toNat * 4294967296 + p % 4294967296 := by omega
              have g1 : p / 4294967296 % 2 ^ (n - 32).toNat * 4294967296 + p % 4294967296 < 2 ^ n.toNat := by rw [e3]; omega
              have g2 : (2 : Int) ^ n.toNat ≤ 4611686018427387904 := pow62 (by omega)
              have g3 := pow_pos n.toNat
              have E1 : Hid (rnd p n m = rndQ m (p / 4294967296 / 2 ^ (n - 32).toNat) (p / 4294967296 % 2 ^ (n - 32).toNat * 4294967296 + p % 4294967296) (2 ^ n.toNat)) := by
                show rndQ m (p / 2 ^ n.toNat) (p % 2 ^ n.toNat) (2 ^ n.toNat) = _
                rw [e1, e2]
              clear e1 e2 e3 f5 f7 hH
              by_cases hu : upB m (p / 4294967296 / 2 ^ (n - 32).toNat) (p / 4294967296 % 2 ^ (n - 32).toNat * 4294967296 + p % 4294967296) (2 ^ n.toNat) = true
              · have HU := Lib.hid (E1.out.trans (rndQ_up hu))
                clear E1
                go_wp2_with (first | (go_at_call 41; refine (mode_is _ _ _ HM.out).mono ?_; rintro e w1 ⟨rfl, hb1⟩; (first | replace hb := Ext.trans hb hb1 | replace hb := Ext.trans (Ext.trans hb (Ext.drewN _ _)) hb1 | replace hb := Ext.trans (Ext.trans hb (Ext.alloc _ _)) hb1 | have hb := hb1); clear hb1; obtain ⟨hc1, hf1⟩ := hb.old) | (go_at_call 47; refine (up_any _ _ _ _ _ _ g0 g1 g2 m1 m2 F7.out).mono ?_; rintro e w1 ⟨rfl, hb1⟩; (first | replace hb := Ext.trans hb hb1 | replace hb := Ext.trans (Ext.trans hb (Ext.drewN _ _)) hb1 | replace hb := Ext.trans (Ext.trans hb (Ext.alloc _ _)) hb1 | have hb := hb1); clear hb1; obtain ⟨hc1, hf1⟩ := hb.old) | (go_at_call 20; refine (rclip_any _ _ _ _ h1 h2).mono ?_; rintro e w1 ⟨rfl, hb1⟩; (first | replace hb := Ext.trans hb hb1 | replace hb := Ext.trans (Ext.trans hb (Ext.drewN _ _)) hb1 | replace hb := Ext.trans (Ext.trans hb (Ext.alloc _ _)) hb1 | have hb := hb1); clear hb1; obtain ⟨hc1, hf1⟩ := hb.old))
                go_ret3
                exact ⟨by rw [HR.out, HU.out]; rfl, (by repeat (first | exact Ext.refl _ | assumption | exact Ext.alloc _ _ | refine Ext.trans ?_ (by assumption) | refine Ext.trans ?_ (Ext.alloc _ _) | refine Ext.trans ?_ (Ext.drewN _ _) | refine Ext.trans ?_ (Ext.drew _)))⟩
              · replace hu : upB m (p / 4294967296 / 2 ^ (n - 32).toNat) (p / 4294967296 % 2 ^ (n - 32).toNat * 4294967296 + p % 4294967296) (2 ^ n.toNat) = false := by simpa using hu
                have HU := Lib.hid (E1.out.trans (rndQ_dn hu))
                clear E1
                go_wp2_with (first | (go_at_call 41; refine (mode_is _ _ _ HM.out).mono ?_; rintro e w1 ⟨rfl, hb1⟩; (first | replace hb := Ext.trans hb hb1 | replace hb := Ext.trans (Ext.trans hb (Ext.drewN _ _)) hb1 | replace hb := Ext.trans (Ext.trans hb (Ext.alloc _ _)) hb1 | have hb := hb1); clear hb1; obtain ⟨hc1, hf1⟩ := hb.old) | (go_at_call 47; refine (up_any _ _ _ _ _ _ g0 g1 g2 m1 m2 F7.out).mono ?_; rintro e w1 ⟨rfl, hb1⟩; (first | replace hb := Ext.trans hb hb1 | replace hb := Ext.trans (Ext.trans hb (Ext.drewN _ _)) hb1 | replace hb := Ext.trans (Ext.trans hb (Ext.alloc _ _)) hb1 | have hb := hb1); clear hb1; obtain ⟨hc1, hf1⟩ := hb.old) | (go_at_call 20; refine (rclip_any _ _ _ _ h1 h2).mono ?_; rintro e w1 ⟨rfl, hb1⟩; (first | replace hb := Ext.trans hb hb1 | replace hb := Ext.trans (Ext.trans hb (Ext.drewN _ _)) hb1 | replace hb := Ext.trans (Ext.trans hb (Ext.alloc _ _)) hb1 | have hb := hb1); clear hb1; obtain ⟨hc1, hf1⟩ := hb.old))
                go_ret3
                exact ⟨by rw [HR.out, HU.out]; rfl, (by repeat (first | exact Ext.refl _ | assumption | exact Ext.alloc _ _ | refine Ext.trans ?_ (by assumption) | refine Ext.trans ?_ (Ext.alloc _ _) | refine Ext.trans ?_ (Ext.drewN _ _) | refine Ext.trans ?_ (Ext.drew _)))⟩
      · have HR := Lib.hid (mulF_bad (b := b) (s := s) (x := x) (y := y) hn)
        by_cases hm : 0 ≤ m ∧ m ≤ 3
        · replace hn : n < 0 ∨ 62 < n := by omega
          have HM := Lib.hid (okM_t hm.1 hm.2)
          clear hm
          go_wp2_with (first | (go_at_call 41; refine (mode_is _ _ _ HM.out).mono ?_; rintro e w1 ⟨rfl, hb1⟩; (first | replace hb := Ext.trans hb hb1 | replace hb := Ext.trans (Ext.trans hb (Ext.drewN _ _)) hb1 | replace hb := Ext.trans (Ext.trans hb (Ext.alloc _ _)) hb1 | have hb := hb1); clear hb1; obtain ⟨hc1, hf1⟩ := hb.old))
          all_goals (go_ret3; exact ⟨by rw [HR.out]; rfl, (by repeat (first | exact Ext.refl _ | assumption | exact Ext.alloc _ _ | refine Ext.trans ?_ (by assumption) | refine Ext.trans ?_ (Ext.alloc _ _) | refine Ext.trans ?_ (Ext.drewN _ _) | refine Ext.trans ?_ (Ext.drew _)))⟩)
        · have HM := Lib.hid (okM_f hm)
          clear hm hn
          go_wp2_with (first | (go_at_call 41; refine (mode_is _ _ _ HM.out).mono ?_; rintro e w1 ⟨rfl, hb1⟩; (first | replace hb := Ext.trans hb hb1 | replace hb := Ext.trans (Ext.trans hb (Ext.drewN _ _)) hb1 | replace hb := Ext.trans (Ext.trans hb (Ext.alloc _ _)) hb1 | have hb := hb1); clear hb1; obtain ⟨hc1, hf1⟩ := hb.old))
          all_goals (go_ret3; exact ⟨by rw [HR.out]; rfl, (by repeat (first | exact Ext.refl _ | assumption | exact Ext.alloc _ _ | refine Ext.trans ?_ (by assumption) | refine Ext.trans ?_ (Ext.alloc _ _) | refine Ext.trans ?_ (Ext.drewN _ _) | refine Ext.trans ?_ (Ext.drew _)))⟩)

end Go.Proofs.Ytfllhbebackbdaa
