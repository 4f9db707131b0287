/- Products and quotients. -/
import Derived.Test.YtfllhbebackbdaaWordf
namespace Go.Proofs.Ytfllhbebackbdaa
open Go.RowKit

theorem isF_not {b s x y : Int} (h : ¬ pairF b s x y = 0) (hx : isF b s x = true) : isF b s y = false := by
  by_cases hv : chkF b s = 0
  · rw [isF_ok hv] at hx ⊢
    cases hy : inB b y with
    | false => rfl
    | true => exact absurd (pair_ok hv hx hy) h
  · exact isF_bad hv

set_option maxRecDepth 100000 in
set_option maxHeartbeats 1000000 in
theorem rdot1_bad (b s x y n m : Int) (w : World) (ba bb : Nat) (ha : ba < w.heap.size) (hb' : bb < w.heap.size) (ca : w.cell? ⟨ba, 0, none⟩ = some (I x)) (cb : w.cell? ⟨bb, 0, none⟩ = some (I y))
   (hp : ¬ pairF b s x y = 0) :
    Calls Try.prog 45 #[fmt b s, .slice (some ⟨ba, 0, none⟩) 1 1, .slice (some ⟨bb, 0, none⟩) 1 1, I n, I m] w fun e w' => e = .returned (ref3 (mulF b s x y n m)) ∧ Ext w w' := by
  have HR := Lib.hid (mulF_pair (n := n) (m := m) hp)
  by_cases hv : chkF b s = 0
  · have hv' : (chkF b s != 0) = false := by simpa using hv
    have HV := Lib.hid hv; clear hv
    have ha2 : ba < w.heap.size + 1 := by omega
    have hb2 : bb < w.heap.size + 1 := by omega
    have ha3 : ba ≠ w.heap.size := by omega
    have hb3 : bb ≠ w.heap.size := by omega
    have HP := Lib.hid hp; clear hp
    go_enter Try.func45, Try.ntmps45
    go_wp2_with (first
      | (go_at_call 15; refine (rcheck_any _ _ _).mono ?_; rintro e w1 ⟨rfl, hb1⟩; (first | replace hb := Ext.trans hb hb1 | replace hb := Ext.trans (Ext.trans hb (Ext.drewN _ _)) hb1 | replace hb := Ext.trans (Ext.trans hb (Ext.alloc _ _)) hb1 | have hb := hb1); clear hb1; obtain ⟨hc1, hf1⟩ := hb.old))
    go_loopw [14, 15, 38] (fun hi lo k wr => Ext (w.alloc (.cells #[I b, I s] 23)) wr ∧ (k = I 0 ∧ hi = I 0 ∧ lo = I 0)) (fun _ _ k _ => 1 - (intOf k).toNat)
    case atStart => exact ⟨(by repeat (first | exact Ext.refl _ | assumption | exact Ext.alloc _ _ | refine Ext.trans ?_ (by assumption) | refine Ext.trans ?_ (Ext.alloc _ _) | refine Ext.trans ?_ (Ext.drewN _ _) | refine Ext.trans ?_ (Ext.drew _))), rfl, rfl, rfl⟩
    case round =>
      clear hb
      obtain ⟨hb, rfl, rfl, rfl⟩ := hrel
      obtain ⟨hc, hf⟩ := hb.old
      by_cases ix : isF b s x = true
      · have iy := isF_not HP.out ix
        go_wp2_with fail
        have hL := fun (x : Later _) => (Ext.trans hb x.ext).old.1
        refine wp_region_later (by kernel_rfl) (by kernel_rfl) ?_
        repeat (go_big_quiet_step (((go_at_call 44; exact Calls.later (is_any _ _ _ _)))))
        refine wpQuiet_nil ?_
        intro w2 hw2
        replace hb := Ext.trans hb (Later.of hw2)
        clear hw2 hL
        obtain ⟨hc, hf⟩ := hb.old
        go_wp2_with fail
        go_ret3
        exact ⟨by rw [HR.out]; rfl, (by repeat (first | exact Ext.refl _ | assumption | exact Ext.alloc _ _ | refine Ext.trans ?_ (by assumption) | refine Ext.trans ?_ (Ext.alloc _ _) | refine Ext.trans ?_ (Ext.drewN _ _) | refine Ext.trans ?_ (Ext.drew _)))⟩
      · replace ix : isF b s x = false := by simpa using ix
        go_wp2_with fail
        have hL := fun (x : Later _) => (Ext.trans hb x.ext).old.1
        refine wp_region_later (by kernel_rfl) (by kernel_rfl) ?_
        repeat (go_big_quiet_step (((go_at_call 44; exact Calls.later (is_any _ _ _ _)))))
        refine wpQuiet_nil ?_
        intro w2 hw2
        replace hb := Ext.trans hb (Later.of hw2)
        clear hw2 hL
        obtain ⟨hc, hf⟩ := hb.old
        go_wp2_with fail
        go_ret3
        exact ⟨by rw [HR.out]; rfl, (by repeat (first | exact Ext.refl _ | assumption | exact Ext.alloc _ _ | refine Ext.trans ?_ (by assumption) | refine Ext.trans ?_ (Ext.alloc _ _) | refine Ext.trans ?_ (Ext.drewN _ _) | refine Ext.trans ?_ (Ext.drew _)))⟩
  · have h3 := Lib.hid (chk_bad hv)
    have hv' : (chkF b s != 0) = true := by simpa using hv
    have HV := Lib.hid hv; clear hv
    have HP := Lib.hid hp; clear hp
    go_enter Try.func45, Try.ntmps45
    go_wp2_with (first
      | (go_at_call 15; refine (rcheck_any _ _ _).mono ?_; rintro e w1 ⟨rfl, hb1⟩; (first | replace hb := Ext.trans hb hb1 | replace hb := Ext.trans (Ext.trans hb (Ext.drewN _ _)) hb1 | replace hb := Ext.trans (Ext.trans hb (Ext.alloc _ _)) hb1 | have hb := hb1); clear hb1; obtain ⟨hc1, hf1⟩ := hb.old))
    go_ret3
    exact ⟨by rw [HR.out]; show _ = Ending.returned (.tuple #[I 0, .bool false, I 3]); rw [← h3.out]; rfl, (by repeat (first | exact Ext.refl _ | assumption | exact Ext.alloc _ _ | refine Ext.trans ?_ (by assumption) | refine Ext.trans ?_ (Ext.alloc _ _) | refine Ext.trans ?_ (Ext.drewN _ _) | refine Ext.trans ?_ (Ext.drew _)))⟩

theorem rdot1_any (b s x y n m : Int) (w : World) (ba bb : Nat) (ha : ba < w.heap.size) (hb' : bb < w.heap.size) (ca : w.cell? ⟨ba, 0, none⟩ = some (I x)) (cb : w.cell? ⟨bb, 0, none⟩ = some (I y)) :
    Calls Try.prog 45 #[fmt b s, .slice (some ⟨ba, 0, none⟩) 1 1, .slice (some ⟨bb, 0, none⟩) 1 1, I n, I m] w fun e w' => e = .returned (ref3 (mulF b s x y n m)) ∧ Ext w w' := by
  by_cases hp : pairF b s x y = 0
  · obtain ⟨hv, hx, hy⟩ := pair_of hp
    exact rdot1 b s x y n m w ba bb ha hb' ca cb hv hx hy
  · exact rdot1_bad b s x y n m w ba bb ha hb' ca cb hp

set_option maxHeartbeats 400000 in
theorem rmul_any (b s x y n m : Int) (w : World) :
    Calls Try.prog 30 #[fmt b s, I x, I y, I n, I m] w fun e w' => e = .returned (ref3 (mulF b s x y n m)) ∧ Ext w w' := by
  go_enter Try.func30, Try.ntmps30
  go_wp2_with fail
  refine (rdot1_any b s x y n m _ (w.heap.size + 1) (w.heap.size + 1 + 1) ?_ ?_ ?_ ?_).mono ?_
  · simp
  · simp
  · go_simp
  · go_simp
  rintro e w1 ⟨rfl, hb⟩
  go_wp2
  go_ret3
  exact ⟨by rfl, (by repeat (first | exact Ext.refl _ | assumption | exact Ext.alloc _ _ | refine Ext.trans ?_ (by assumption) | refine Ext.trans ?_ (Ext.alloc _ _) | refine Ext.trans ?_ (Ext.drewN _ _) | refine Ext.trans ?_ (Ext.drew _)))⟩

set_option maxHeartbeats 400000 in
theorem mul_any (b s x y n m : Int) (w : World) :
    Calls Try.prog 29 #[fmt b s, I x, I y, I n, I m] w fun e w' => e = .returned (res3 (mulF b s x y n m)) ∧ Ext w w' := by
  by_cases hp : pairF b s x y = 0
  · obtain ⟨hv, hx, hy⟩ := pair_of hp
    obtain ⟨h1, h2, _, _⟩ := chk_of hv
    obtain ⟨q1, q2⟩ := mul_bd (inB_bd h2 hx) (inB_bd h2 hy)
    have HP := Lib.hid hp; clear hp hv hx hy
    by_cases hn : 0 ≤ n ∧ n ≤ 62 ∧ 0 ≤ m ∧ m ≤ 3
    · obtain ⟨n1, n2, m1, m2⟩ := hn
      have HR := Lib.hid (mulF_ok (n := n) (m := m) HP.out rfl n1 n2 m1 m2)
      have HM := Lib.hid (okM_t m1 m2)
      have HI : Hid (In64 (x * y)) := ⟨by omega, by omega⟩
      go_enter Try.func29, Try.ntmps29
      go_wp2_with (first
        | (go_at_call 43; refine (pair_nil _ _ _ _ _ HP.out).mono ?_; rintro e w1 ⟨rfl, hb1⟩; (first | replace hb := Ext.trans hb hb1 | replace hb := Ext.trans (Ext.trans hb (Ext.drewN _ _)) hb1 | replace hb := Ext.trans (Ext.trans hb (Ext.alloc _ _)) hb1 | have hb := hb1); clear hb1; obtain ⟨hc1, hf1⟩ := hb.old)
        | (go_at_call 39; refine (isMode_is _ _ _ HM.out).mono ?_; rintro e w1 ⟨rfl, hb1⟩; (first | replace hb := Ext.trans hb hb1 | replace hb := Ext.trans (Ext.trans hb (Ext.drewN _ _)) hb1 | replace hb := Ext.trans (Ext.trans hb (Ext.alloc _ _)) hb1 | have hb := hb1); clear hb1; obtain ⟨hc1, hf1⟩ := hb.old))
      have hL := fun (x : Later _) => (Ext.trans hb x.ext).old.1
      refine wp_region_later (by kernel_rfl) (by kernel_rfl) ?_
      repeat (go_big_quiet_step ((first | (go_at_call 40; exact Calls.later (shiftRight_any _ _ _ _ HI.out n1 n2 m1 m2)) | (go_at_call 38; exact Calls.later (saturate_any _ _ _ _ h1 h2)))))
      refine wpQuiet_nil ?_
      intro w2 hw2
      replace hb := Ext.trans hb (Later.of hw2)
      clear hw2 hL
      obtain ⟨hc, hf⟩ := hb.old
      go_wp2
      go_ret3
      exact ⟨by rw [HR.out]; rfl, (by repeat (first | exact Ext.refl _ | assumption | exact Ext.alloc _ _ | refine Ext.trans ?_ (by assumption) | refine Ext.trans ?_ (Ext.alloc _ _) | refine Ext.trans ?_ (Ext.drewN _ _) | refine Ext.trans ?_ (Ext.drew _)))⟩
    · have HR := Lib.hid (mulF_bad (b := b) (s := s) (x := x) (y := y) hn)
      by_cases hm : 0 ≤ m ∧ m ≤ 3
      · replace hn : n < 0 ∨ 62 < n := by omega
        have HM := Lib.hid (okM_t hm.1 hm.2)
        clear hm
        go_enter Try.func29, Try.ntmps29
        go_wp2_with (first
          | (go_at_call 43; refine (pair_nil _ _ _ _ _ HP.out).mono ?_; rintro e w1 ⟨rfl, hb1⟩; (first | replace hb := Ext.trans hb hb1 | replace hb := Ext.trans (Ext.trans hb (Ext.drewN _ _)) hb1 | replace hb := Ext.trans (Ext.trans hb (Ext.alloc _ _)) hb1 | have hb := hb1); clear hb1; obtain ⟨hc1, hf1⟩ := hb.old)
          | (go_at_call 39; refine (isMode_is _ _ _ HM.out).mono ?_; rintro e w1 ⟨rfl, hb1⟩; (first | replace hb := Ext.trans hb hb1 | replace hb := Ext.trans (Ext.trans hb (Ext.drewN _ _)) hb1 | replace hb := Ext.trans (Ext.trans hb (Ext.alloc _ _)) hb1 | have hb := hb1); clear hb1; obtain ⟨hc1, hf1⟩ := hb.old))
        all_goals (go_ret3; exact ⟨by rw [HR.out]; rfl, (by repeat (first | exact Ext.refl _ | assumption | exact Ext.alloc _ _ | refine Ext.trans ?_ (by assumption) | refine Ext.trans ?_ (Ext.alloc _ _) | refine Ext.trans ?_ (Ext.drewN _ _) | refine Ext.trans ?_ (Ext.drew _)))⟩)
      · have HM := Lib.hid (okM_f hm)
        clear hm hn
        go_enter Try.func29, Try.ntmps29
        go_wp2_with (first
          | (go_at_call 43; refine (pair_nil _ _ _ _ _ HP.out).mono ?_; rintro e w1 ⟨rfl, hb1⟩; (first | replace hb := Ext.trans hb hb1 | replace hb := Ext.trans (Ext.trans hb (Ext.drewN _ _)) hb1 | replace hb := Ext.trans (Ext.trans hb (Ext.alloc _ _)) hb1 | have hb := hb1); clear hb1; obtain ⟨hc1, hf1⟩ := hb.old)
          | (go_at_call 39; refine (isMode_is _ _ _ HM.out).mono ?_; rintro e w1 ⟨rfl, hb1⟩; (first | replace hb := Ext.trans hb hb1 | replace hb := Ext.trans (Ext.trans hb (Ext.drewN _ _)) hb1 | replace hb := Ext.trans (Ext.trans hb (Ext.alloc _ _)) hb1 | have hb := hb1); clear hb1; obtain ⟨hc1, hf1⟩ := hb.old))
        all_goals (go_ret3; exact ⟨by rw [HR.out]; rfl, (by repeat (first | exact Ext.refl _ | assumption | exact Ext.alloc _ _ | refine Ext.trans ?_ (by assumption) | refine Ext.trans ?_ (Ext.alloc _ _) | refine Ext.trans ?_ (Ext.drewN _ _) | refine Ext.trans ?_ (Ext.drew _)))⟩)
  · have HR := Lib.hid (mulF_pair (n := n) (m := m) hp)
    have HP := Lib.hid hp; clear hp
    go_enter Try.func29, Try.ntmps29
    go_wp2_with (first
      | (go_at_call 43; refine (pair_err _ _ _ _ _ HP.out).mono ?_; rintro e w1 ⟨rfl, hb1⟩; (first | replace hb := Ext.trans hb hb1 | replace hb := Ext.trans (Ext.trans hb (Ext.drewN _ _)) hb1 | replace hb := Ext.trans (Ext.trans hb (Ext.alloc _ _)) hb1 | have hb := hb1); clear hb1; obtain ⟨hc1, hf1⟩ := hb.old))
    go_ret3
    exact ⟨by rw [HR.out]; rfl, (by repeat (first | exact Ext.refl _ | assumption | exact Ext.alloc _ _ | refine Ext.trans ?_ (by assumption) | refine Ext.trans ?_ (Ext.alloc _ _) | refine Ext.trans ?_ (Ext.drewN _ _) | refine Ext.trans ?_ (Ext.drew _)))⟩

/-- The quotient of A * 2^n by b, the divisor made positive. -/
def denF (y : Int) : Int := if y < 0 then -y else y
def quoW (X y m : Int) : Int := rndQ m ((if y < 0 then -X else X) / denF y) ((if y < 0 then -X else X) % denF y) (denF y)
def quoF (x y n m : Int) : Int := quoW (x * 2 ^ n.toNat) y m
def divF (b s x y n m : Int) : Int × Bool × Int :=
  if pairF b s x y = 0 ∧ 0 ≤ n ∧ n ≤ 31 ∧ 0 ≤ m ∧ m ≤ 3 then (if y = 0 then (0, false, 8) else (clipF b (quoF x y n m), cutF b (quoF x y n m), 0)) else (0, false, 3)

theorem tdiv_facts {X d : Int} (hd : 1 ≤ d) : (X.tmod d < 0 → X.tdiv d - 1 = X / d ∧ X.tmod d + d = X % d) ∧ (¬ X.tmod d < 0 → X.tdiv d = X / d ∧ X.tmod d = X % d) := by
  have t1 := Int.mul_tdiv_add_tmod X d
  have t2 := Int.mul_ediv_add_emod X d
  have e0 := Int.emod_nonneg X (show d ≠ 0 by omega)
  have e1 := Int.emod_lt_of_pos X (show 0 < d by omega)
  have m1 : X.tmod d < d := Int.tmod_lt_of_pos X (by omega)
  have m2 : -d < X.tmod d := by
    by_cases h : 0 ≤ X
    · have := Int.tmod_nonneg d h; omega
    · have h2 := Int.tmod_lt_of_pos (-X) (show 0 < d by omega)
      rw [Int.neg_tmod] at h2; omega
  have key : ∀ q q' r r' : Int, d * q + r = d * q' + r' → 0 ≤ r → r < d → 0 ≤ r' → r' < d → q = q' ∧ r = r' := by
    intro q q' r r' h a1 a2 a3 a4
    have hz : d * (q - q') = r' - r := by rw [Int.mul_sub]; omega
    have : q - q' = 0 := by
      rcases Int.lt_trichotomy (q - q') 0 with h' | h' | h'
      · have := Int.mul_le_mul_of_nonneg_left (show q - q' ≤ -1 by omega) (show 0 ≤ d by omega); omega
      · exact h'
      · have := Int.mul_le_mul_of_nonneg_left (show 1 ≤ q - q' by omega) (show 0 ≤ d by omega); omega
    rw [this, Int.mul_zero] at hz
    omega
  constructor
  · intro h
    refine key _ _ _ _ ?_ (by omega) (by omega) e0 e1
    rw [Int.mul_sub]; omega
  · intro h
    exact key _ _ _ _ (by omega) (by omega) m1 e0 e1

theorem ediv_bd {X d : Int} (hd : 1 ≤ d) (h1 : -4611686018427387904 ≤ X) (h2 : X ≤ 4611686018427387904) : -4611686018427387904 ≤ X / d ∧ X / d ≤ 4611686018427387904 ∧ 0 ≤ X % d ∧ X % d < d ∧ (X < 0 ↔ X / d < 0) := by
  have e0 := Int.emod_nonneg X (show d ≠ 0 by omega)
  have e1 := Int.emod_lt_of_pos X (show 0 < d by omega)
  have t2 := Int.mul_ediv_add_emod X d
  refine ⟨?_, ?_, e0, e1, ?_, ?_⟩
  · by_cases h : 0 ≤ X
    · have := Int.ediv_nonneg h (show 0 ≤ d by omega); omega
    · have : X * d ≤ X * 1 := Int.mul_le_mul_of_nonpos_left (by omega) (by omega)
      have := Int.le_ediv_of_mul_le (show 0 < d by omega) (show X * d ≤ X by omega)
      omega
  · by_cases h : 0 ≤ X
    · have := Int.ediv_le_self d h; omega
    · have := Int.ediv_neg_of_neg_of_pos (show X < 0 by omega) (show 0 < d by omega); omega
  · intro h; exact Int.ediv_neg_of_neg_of_pos h (by omega)
  · intro h
    by_cases h0 : 0 ≤ X
    · have := Int.ediv_nonneg h0 (show 0 ≤ d by omega); omega
    · omega

theorem shl_bd {x n : Int} (bx : -2147483648 ≤ x ∧ x ≤ 2147483647) (h1 : n ≤ 31) : -4611686018427387904 ≤ x * 2 ^ n.toNat ∧ x * 2 ^ n.toNat ≤ 4611686018427387904 := by
  have p : (2 : Int) ^ n.toNat ≤ 2147483648 := by have := pow_le (j := n.toNat) (k := 31) (by omega); simpa using this
  have p1 := pow_pos n.toNat
  have h : (x * 2 ^ n.toNat).natAbs ≤ 2147483648 * 2147483648 := by
    rw [Int.natAbs_mul]; exact Nat.mul_le_mul (by omega) (by omega)
  omega

end Go.Proofs.Ytfllhbebackbdaa
