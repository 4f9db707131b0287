/- Laws of package sine that need no reference. -/
import Derived.Test.YtphhbakadfjiiaaDoorSinb
import Derived.Test.YtphhbakadfjiiaaDoorSins
namespace Go.Proofs.YtphhbakadfjiiaaDoor
open Go.RowKit

theorem sq_bd {x : Int} (h : -32768 ≤ x ∧ x ≤ 32768) : 0 ≤ x * x ∧ x * x ≤ 1073741824 := by
  have : (x * x).natAbs ≤ 32768 * 32768 := by rw [Int.natAbs_mul]; exact Nat.mul_le_mul (by omega) (by omega)
  have h2 : 0 ≤ x * x := by
    by_cases hh : 0 ≤ x
    · exact Int.mul_nonneg hh hh
    · have := Int.mul_nonneg (show 0 ≤ -x by omega) (show 0 ≤ -x by omega); rwa [Int.neg_mul_neg] at this
  omega
theorem pr_bd {x y : Int} (h : -32768 ≤ x ∧ x ≤ 32768) (h' : -32768 ≤ y ∧ y ≤ 32768) : -1073741824 ≤ x * y ∧ x * y ≤ 1073741824 := by
  have : (x * y).natAbs ≤ 32768 * 32768 := by rw [Int.natAbs_mul]; exact Nat.mul_le_mul (by omega) (by omega)
  omega

/-- n, moved into its limits. -/
def clp (n lo hi : Int) : Int := if n < lo then lo else if hi < n then hi else n
theorem clp_lo {n lo hi : Int} (h : n < lo) : clp n lo hi = lo := by unfold clp; rw [if_pos h]
theorem clp_hi {n lo hi : Int} (h : ¬ n < lo) (h' : hi < n) : clp n lo hi = hi := by unfold clp; rw [if_neg h, if_pos h']
theorem clp_in {n lo hi : Int} (h : ¬ n < lo) (h' : ¬ hi < n) : clp n lo hi = n := by unfold clp; rw [if_neg h, if_neg h']
theorem clp_bd (n lo hi : Int) (h : lo ≤ hi) : lo ≤ clp n lo hi ∧ clp n lo hi ≤ hi := by unfold clp; split <;> (try split) <;> omega

set_option maxHeartbeats 400000 in
theorem clip_any (n lo hi : Int) (w : World) (hl : lo < hi) : Calls Tryd.prog 21 #[I n, I lo, I hi] w fun e w' => e = .returned (I (clp n lo hi)) ∧ Ext w w' := by
  by_cases h1 : n < lo
  · have H := Lib.hid (clp_lo (hi := hi) h1)
    have h2 : n < hi := by omega
    go_enter Tryd.func21, Tryd.ntmps21
    go_wp2
    go_ret
    exact ⟨by rw [H.out]; first | rfl | omega, Ext.refl _⟩
  · by_cases h2 : hi < n
    · have H := Lib.hid (clp_hi h1 h2)
      have h3 : ¬ n < hi := by omega
      have h4 : lo < hi := hl
      go_enter Tryd.func21, Tryd.ntmps21
      go_wp2
      go_ret
      exact ⟨by rw [H.out]; first | rfl | omega, Ext.refl _⟩
    · have H := Lib.hid (clp_in h1 h2)
      by_cases h3 : n < hi
      · by_cases h4 : lo < n
        · go_enter Tryd.func21, Tryd.ntmps21
          go_wp2
          go_ret
          exact ⟨by rw [H.out]; first | rfl | omega, Ext.refl _⟩
        · obtain rfl : n = lo := by omega
          go_enter Tryd.func21, Tryd.ntmps21
          go_wp2
          go_ret
          exact ⟨by rw [H.out]; first | rfl | omega, Ext.refl _⟩
      · obtain rfl : n = hi := by omega
        have h4 : lo < n := hl
        go_enter Tryd.func21, Tryd.ntmps21
        go_wp2
        go_ret
        exact ⟨by rw [H.out]; first | rfl | omega, Ext.refl _⟩
theorem clip_is (n c : Int) (w : World) (h : clp n (-1152921504606846976) 1152921504606846976 = c) : Calls Tryd.prog 21 #[I n, I (-1152921504606846976), I 1152921504606846976] w fun e w' => e = .returned (I c) ∧ Ext w w' := by
  subst h; exact clip_any n _ _ w (by omega)

/-- The greatest of x, -x and y, -y, as the walk spells it, in steps. -/
theorem mx2 {x b : Int} (h : -b ≤ x ∧ x ≤ b) : ∃ m, (if x < -x then -x else x) = m ∧ 0 ≤ m ∧ m ≤ b := ⟨_, rfl, by split <;> omega, by split <;> omega⟩
theorem mx4 {x y b : Int} (h : -b ≤ x ∧ x ≤ b) (h' : -b ≤ y ∧ y ≤ b) : ∃ m : Int, (∀ (ts : Array TypeId) (t : TypeId) (w : World), (Builtin.max_ ts t #[I x, I (-x), I y, I (-y)]).run Tryd.prog w = .ok (I m) w) ∧ 0 ≤ m ∧ m ≤ b := by
  obtain ⟨m1, e1, a1, b1⟩ := mx2 h
  have ⟨m2, e2, a2, b2⟩ : ∃ k, (if m1 < y then y else m1) = k ∧ 0 ≤ k ∧ k ≤ b := ⟨_, rfl, by split <;> omega, by split <;> omega⟩
  have ⟨m3, e3, a3, b3⟩ : ∃ k, (if m2 < -y then -y else m2) = k ∧ 0 ≤ k ∧ k ≤ b := ⟨_, rfl, by split <;> omega, by split <;> omega⟩
  refine ⟨m3, fun ts t w => ?_, a3, b3⟩
  simp [Builtin.max_, Builtin.max2, e1, e2, e3]
theorem mx6 {x y z b : Int} (h : -b ≤ x ∧ x ≤ b) (h' : -b ≤ y ∧ y ≤ b) (h'' : -b ≤ z ∧ z ≤ b) : ∃ m : Int, (∀ (ts : Array TypeId) (t : TypeId) (w : World), (Builtin.max_ ts t #[I x, I (-x), I y, I (-y), I z, I (-z)]).run Tryd.prog w = .ok (I m) w) ∧ 0 ≤ m ∧ m ≤ b := by
  obtain ⟨m1, e1, a1, b1⟩ := mx2 h
  have ⟨m2, e2, a2, b2⟩ : ∃ k, (if m1 < y then y else m1) = k ∧ 0 ≤ k ∧ k ≤ b := ⟨_, rfl, by split <;> omega, by split <;> omega⟩
  have ⟨m3, e3, a3, b3⟩ : ∃ k, (if m2 < -y then -y else m2) = k ∧ 0 ≤ k ∧ k ≤ b := ⟨_, rfl, by split <;> omega, by split <;> omega⟩
  have ⟨m4, e4, a4, b4⟩ : ∃ k, (if m3 < z then z else m3) = k ∧ 0 ≤ k ∧ k ≤ b := ⟨_, rfl, by split <;> omega, by split <;> omega⟩
  have ⟨m5, e5, a5, b5⟩ : ∃ k, (if m4 < -z then -z else m4) = k ∧ 0 ≤ k ∧ k ≤ b := ⟨_, rfl, by split <;> omega, by split <;> omega⟩
  refine ⟨m5, fun ts t w => ?_, a5, b5⟩
  simp [Builtin.max_, Builtin.max2, e1, e2, e3, e4, e5]
theorem mxn {m y b : Int} (h0 : 0 ≤ m) (h1 : m ≤ b) (h : y ≤ b) : ∃ k, (if m < y then y else m) = k ∧ 0 ≤ k ∧ k ≤ b := ⟨_, rfl, by split <;> omega, by split <;> omega⟩

theorem ret_true {b : Bool} (h : b = true) : Ending.returned (.bool b) = .returned (.bool true) := by rw [h]

set_option maxRecDepth 100000 in
set_option maxHeartbeats 1000000 in
theorem length_of (a c s : Int) (w : World) (hT : TabS w) (hc : cs a = c) (hs : sn a = s) : Calls Tryd.prog 5 #[I a] w fun e w' => e = .returned (.bool true) ∧ Ext w w' := by
  obtain ⟨l1, l2⟩ := len_fact a
  have bc := cs_bd a
  have bs := sn_bd a
  rw [hc] at bc l1 l2
  rw [hs] at bs l1 l2
  have HT := Lib.hid hT; clear hT
  have HC := Lib.hid hc; clear hc
  have HS := Lib.hid hs; clear hs
  obtain ⟨q11, q12⟩ := sq_bd bc
  obtain ⟨q21, q22⟩ := sq_bd bs
  obtain ⟨m, hm, a0, a1⟩ := mx4 bc bs
  obtain ⟨c1, c2⟩ := bc
  obtain ⟨s1, s2⟩ := bs
  go_enter Tryd.func5, Tryd.ntmps5
  go_wp2_with (first
    | (go_at_call 11; refine (awake_any _ HT.out).mono ?_; rintro e w1 ⟨rfl, hb1⟩; (first | replace hb := Ext.trans hb hb1 | replace hb := Ext.trans (Ext.trans hb (Ext.drewN _ _)) hb1 | replace hb := Ext.trans (Ext.trans hb (Ext.alloc _ _)) hb1 | have hb := hb1); clear hb1; obtain ⟨hc1, hf1⟩ := hb.old)
    | (go_at_call 12; refine (both_is a c s _ (HT.out.ext (by repeat (first | exact Ext.refl _ | assumption | exact Ext.alloc _ _ | refine Ext.trans ?_ (by assumption) | refine Ext.trans ?_ (Ext.alloc _ _) | refine Ext.trans ?_ (Ext.drewN _ _) | refine Ext.trans ?_ (Ext.drew _)))) HC.out HS.out).mono ?_; rintro e w1 ⟨rfl, hb1⟩; (first | replace hb := Ext.trans hb hb1 | replace hb := Ext.trans (Ext.trans hb (Ext.drewN _ _)) hb1 | replace hb := Ext.trans (Ext.trans hb (Ext.alloc _ _)) hb1 | have hb := hb1); clear hb1; obtain ⟨hc1, hf1⟩ := hb.old))
  go_ret
  exact ⟨rfl, (by repeat (first | exact Ext.refl _ | assumption | exact Ext.alloc _ _ | refine Ext.trans ?_ (by assumption) | refine Ext.trans ?_ (Ext.alloc _ _) | refine Ext.trans ?_ (Ext.drewN _ _) | refine Ext.trans ?_ (Ext.drew _)))⟩
theorem length_law (a : Int) (w : World) (hT : TabS w) : Calls Tryd.prog 5 #[I a] w fun e w' => e = .returned (.bool true) ∧ Ext w w' := length_of a _ _ w hT rfl rfl

set_option maxRecDepth 100000 in
set_option maxHeartbeats 1000000 in
theorem steps_of (a b c s x y : Int) (w : World) (hT : TabS w) (hb : clp a (-1152921504606846976) 1152921504606846976 = b) (hc : cs b = c) (hs : sn b = s) (hx : cs (b + 1) = x) (hy : sn (b + 1) = y) : Calls Tryd.prog 8 #[I a] w fun e w' => e = .returned (.bool true) ∧ Ext w w' := by
  obtain ⟨l1, l2, l3, l4, l5⟩ := step_facts b
  have bc := cs_bd b
  have bs := sn_bd b
  have bx := cs_bd (b + 1)
  have bY := sn_bd (b + 1)
  have bb := clp_bd a (-1152921504606846976) 1152921504606846976 (by omega)
  rw [hb] at bb
  rw [hc] at bc l1 l2 l5
  rw [hs] at bs l3 l4 l5
  rw [hx] at bx l1 l2 l5
  rw [hy] at bY l3 l4 l5
  have HT := Lib.hid hT; clear hT
  have HB := Lib.hid hb; clear hb
  have HC := Lib.hid hc; clear hc
  have HS := Lib.hid hs; clear hs
  have HX := Lib.hid hx; clear hx
  have HY := Lib.hid hy; clear hy
  obtain ⟨dx, hdx⟩ : ∃ d, x - c = d := ⟨_, rfl⟩
  obtain ⟨dy, hdy⟩ : ∃ d, y - s = d := ⟨_, rfl⟩
  rw [hdx] at l1 l2 l5; rw [hdy] at l3 l4 l5
  obtain ⟨m, hm, a0, a1⟩ := mx4 (x := dx) (y := dy) (b := 4) ⟨l1, l2⟩ ⟨l3, l4⟩
  obtain ⟨c1, c2⟩ := bc
  obtain ⟨s1, s2⟩ := bs
  obtain ⟨x1, x2⟩ := bx
  obtain ⟨y1, y2⟩ := bY
  obtain ⟨b1, b2⟩ := bb
  by_cases hn : nrm b < 16384
  · obtain ⟨l6, l7⟩ := l5 hn
    clear l5
    go_enter Tryd.func8, Tryd.ntmps8
    go_wp2_with (first
      | (go_at_call 11; refine (awake_any _ HT.out).mono ?_; rintro e w1 ⟨rfl, hb1⟩; (first | replace hb := Ext.trans hb hb1 | replace hb := Ext.trans (Ext.trans hb (Ext.drewN _ _)) hb1 | replace hb := Ext.trans (Ext.trans hb (Ext.alloc _ _)) hb1 | have hb := hb1); clear hb1; obtain ⟨hc1, hf1⟩ := hb.old)
      | (go_at_call 21; refine (clip_is a b _ HB.out).mono ?_; rintro e w1 ⟨rfl, hb1⟩; (first | replace hb := Ext.trans hb hb1 | replace hb := Ext.trans (Ext.trans hb (Ext.drewN _ _)) hb1 | replace hb := Ext.trans (Ext.trans hb (Ext.alloc _ _)) hb1 | have hb := hb1); clear hb1; obtain ⟨hc1, hf1⟩ := hb.old)
      | (go_at_call 19; refine (rnorm_any _ _).mono ?_; rintro e w1 ⟨rfl, hb1⟩; (first | replace hb := Ext.trans hb hb1 | replace hb := Ext.trans (Ext.trans hb (Ext.drewN _ _)) hb1 | replace hb := Ext.trans (Ext.trans hb (Ext.alloc _ _)) hb1 | have hb := hb1); clear hb1; obtain ⟨hc1, hf1⟩ := hb.old)
      | (go_at_call 12; (first | (with_reducible refine (both_is b c s _ (HT.out.ext hb) HC.out HS.out).mono ?_) | (with_reducible refine (both_is (b + 1) x y _ (HT.out.ext hb) HX.out HY.out).mono ?_)); rintro e w1 ⟨rfl, hb1⟩; replace hb := Ext.trans hb hb1; clear hb1; obtain ⟨hc1, hf1⟩ := hb.old))
    go_ret
    exact ⟨rfl, (by repeat (first | exact Ext.refl _ | assumption | exact Ext.alloc _ _ | refine Ext.trans ?_ (by assumption) | refine Ext.trans ?_ (Ext.alloc _ _) | refine Ext.trans ?_ (Ext.drewN _ _) | refine Ext.trans ?_ (Ext.drew _)))⟩
  · clear l5
    go_enter Tryd.func8, Tryd.ntmps8
    go_wp2_with (first
      | (go_at_call 11; refine (awake_any _ HT.out).mono ?_; rintro e w1 ⟨rfl, hb1⟩; (first | replace hb := Ext.trans hb hb1 | replace hb := Ext.trans (Ext.trans hb (Ext.drewN _ _)) hb1 | replace hb := Ext.trans (Ext.trans hb (Ext.alloc _ _)) hb1 | have hb := hb1); clear hb1; obtain ⟨hc1, hf1⟩ := hb.old)
      | (go_at_call 21; refine (clip_is a b _ HB.out).mono ?_; rintro e w1 ⟨rfl, hb1⟩; (first | replace hb := Ext.trans hb hb1 | replace hb := Ext.trans (Ext.trans hb (Ext.drewN _ _)) hb1 | replace hb := Ext.trans (Ext.trans hb (Ext.alloc _ _)) hb1 | have hb := hb1); clear hb1; obtain ⟨hc1, hf1⟩ := hb.old)
      | (go_at_call 19; refine (rnorm_any _ _).mono ?_; rintro e w1 ⟨rfl, hb1⟩; (first | replace hb := Ext.trans hb hb1 | replace hb := Ext.trans (Ext.trans hb (Ext.drewN _ _)) hb1 | replace hb := Ext.trans (Ext.trans hb (Ext.alloc _ _)) hb1 | have hb := hb1); clear hb1; obtain ⟨hc1, hf1⟩ := hb.old)
      | (go_at_call 12; (first | (with_reducible refine (both_is b c s _ (HT.out.ext hb) HC.out HS.out).mono ?_) | (with_reducible refine (both_is (b + 1) x y _ (HT.out.ext hb) HX.out HY.out).mono ?_)); rintro e w1 ⟨rfl, hb1⟩; replace hb := Ext.trans hb hb1; clear hb1; obtain ⟨hc1, hf1⟩ := hb.old))
    go_ret
    exact ⟨rfl, (by repeat (first | exact Ext.refl _ | assumption | exact Ext.alloc _ _ | refine Ext.trans ?_ (by assumption) | refine Ext.trans ?_ (Ext.alloc _ _) | refine Ext.trans ?_ (Ext.drewN _ _) | refine Ext.trans ?_ (Ext.drew _)))⟩
theorem steps_law (a : Int) (w : World) (hT : TabS w) : Calls Tryd.prog 8 #[I a] w fun e w' => e = .returned (.bool true) ∧ Ext w w' := steps_of a _ _ _ _ _ w hT rfl rfl rfl rfl rfl

set_option maxRecDepth 100000 in
set_option maxHeartbeats 1000000 in
theorem turns_of (a n b d c s x y : Int) (w : World) (hT : TabS w) (n0 : 0 ≤ n) (n1 : n ≤ 65535) (hb : clp a (-1152921504606846976) 1152921504606846976 = b) (hd : 1 + n % 32767 = d) (hc : cs b = c) (hs : sn b = s) (hx : cs (b + d) = x) (hy : sn (b + d) = y) : Calls Tryd.prog 9 #[I a, .int .u16 n] w fun e w' => e = .returned (.bool true) ∧ Ext w w' := by
  have d1 : 1 ≤ d := by omega
  have d2 : d ≤ 32767 := by omega
  have l1 := cross_fact (a := b) d1 d2
  have bc := cs_bd b
  have bs := sn_bd b
  have bx := cs_bd (b + d)
  have bY := sn_bd (b + d)
  have bb := clp_bd a (-1152921504606846976) 1152921504606846976 (by omega)
  rw [hb] at bb
  rw [hc] at bc l1
  rw [hs] at bs l1
  rw [hx] at bx l1
  rw [hy] at bY l1
  have HT := Lib.hid hT; clear hT
  have HB := Lib.hid hb; clear hb
  have HC := Lib.hid hc; clear hc
  have HS := Lib.hid hs; clear hs
  have HX := Lib.hid hx; clear hx
  have HY := Lib.hid hy; clear hy
  obtain ⟨p1, p2⟩ := pr_bd bc bY
  obtain ⟨p3, p4⟩ := pr_bd bs bx
  obtain ⟨m5, hm5, a8, a9⟩ := mx6 bc bs bx
  obtain ⟨m6, hm6, a10, a11⟩ := mx2 (x := y) (b := 32768) bY
  obtain ⟨c1, c2⟩ := bc
  obtain ⟨s1, s2⟩ := bs
  obtain ⟨x1, x2⟩ := bx
  obtain ⟨y1, y2⟩ := bY
  obtain ⟨b1, b2⟩ := bb
  have HD : Hid (1 + n % 32767 = d) := Lib.hid hd; clear hd
  go_enter Tryd.func9, Tryd.ntmps9
  go_wp2_with (first
      | (go_at_call 11; refine (awake_any _ HT.out).mono ?_; rintro e w1 ⟨rfl, hb1⟩; (first | replace hb := Ext.trans hb hb1 | replace hb := Ext.trans (Ext.trans hb (Ext.drewN _ _)) hb1 | replace hb := Ext.trans (Ext.trans hb (Ext.alloc _ _)) hb1 | have hb := hb1); clear hb1; obtain ⟨hc1, hf1⟩ := hb.old)
      | (go_at_call 21; refine (clip_is a b _ HB.out).mono ?_; rintro e w1 ⟨rfl, hb1⟩; (first | replace hb := Ext.trans hb hb1 | replace hb := Ext.trans (Ext.trans hb (Ext.drewN _ _)) hb1 | replace hb := Ext.trans (Ext.trans hb (Ext.alloc _ _)) hb1 | have hb := hb1); clear hb1; obtain ⟨hc1, hf1⟩ := hb.old)
      | (go_at_call 12; (try simp only [HD.out]); (first | (with_reducible refine (both_is b c s _ (HT.out.ext hb) HC.out HS.out).mono ?_) | (with_reducible refine (both_is (b + d) x y _ (HT.out.ext hb) HX.out HY.out).mono ?_)); rintro e w1 ⟨rfl, hb1⟩; replace hb := Ext.trans hb hb1; clear hb1; obtain ⟨hc1, hf1⟩ := hb.old))
  go_ret
  exact ⟨ret_true (decide_eq_true (by omega)), (by repeat (first | exact Ext.refl _ | assumption | exact Ext.alloc _ _ | refine Ext.trans ?_ (by assumption) | refine Ext.trans ?_ (Ext.alloc _ _) | refine Ext.trans ?_ (Ext.drewN _ _) | refine Ext.trans ?_ (Ext.drew _)))⟩
theorem turns_law (a n : Int) (w : World) (hT : TabS w) (n0 : 0 ≤ n) (n1 : n ≤ 65535) : Calls Tryd.prog 9 #[I a, .int .u16 n] w fun e w' => e = .returned (.bool true) ∧ Ext w w' := turns_of a n _ _ _ _ _ _ w hT n0 n1 rfl rfl rfl rfl rfl rfl

set_option maxRecDepth 100000 in
set_option maxHeartbeats 1000000 in
theorem sums_of (a b a' b' c s x y z : Int) (w : World) (hT : TabS w) (ha : clp a (-1152921504606846976) 1152921504606846976 = a') (hb : clp b (-1152921504606846976) 1152921504606846976 = b') (hc : cs a' = c) (hs : sn a' = s) (hx : cs b' = x) (hy : sn b' = y) (hz : sn (a' + b') = z) : Calls Tryd.prog 10 #[I a, I b] w fun e w' => e = .returned (.bool true) ∧ Ext w w' := by
  have l1 := sum_fact a' b'
  have bc := cs_bd a'
  have bs := sn_bd a'
  have bx := cs_bd b'
  have bY := sn_bd b'
  have bz := sn_bd (a' + b')
  have ba := clp_bd a (-1152921504606846976) 1152921504606846976 (by omega)
  have bb := clp_bd b (-1152921504606846976) 1152921504606846976 (by omega)
  rw [ha] at ba
  rw [hb] at bb
  rw [hc] at bc l1
  rw [hs] at bs l1
  rw [hx] at bx l1
  rw [hy] at bY l1
  rw [hz] at bz l1
  have HT := Lib.hid hT; clear hT
  have HA := Lib.hid ha; clear ha
  have HB := Lib.hid hb; clear hb
  have HC := Lib.hid hc; clear hc
  have HS := Lib.hid hs; clear hs
  have HX := Lib.hid hx; clear hx
  have HY := Lib.hid hy; clear hy
  have HZ := Lib.hid hz; clear hz
  obtain ⟨p1, p2⟩ := pr_bd bs bx
  obtain ⟨p3, p4⟩ := pr_bd bc bY
  obtain ⟨m5, hm5, a8, a9⟩ := mx4 bc bs
  obtain ⟨m6, hm6, a10, a11⟩ := mx4 bx bY
  obtain ⟨c1, c2⟩ := bc
  obtain ⟨s1, s2⟩ := bs
  obtain ⟨x1, x2⟩ := bx
  obtain ⟨y1, y2⟩ := bY
  obtain ⟨z1, z2⟩ := bz
  obtain ⟨b1, b2⟩ := bb
  obtain ⟨b3, b4⟩ := ba
  obtain ⟨l1, l2⟩ := l1
  go_enter Tryd.func10, Tryd.ntmps10
  go_wp2_with (first
      | (go_at_call 11; refine (awake_any _ HT.out).mono ?_; rintro e w1 ⟨rfl, hb1⟩; (first | replace hb := Ext.trans hb hb1 | replace hb := Ext.trans (Ext.trans hb (Ext.drewN _ _)) hb1 | replace hb := Ext.trans (Ext.trans hb (Ext.alloc _ _)) hb1 | have hb := hb1); clear hb1; obtain ⟨hc1, hf1⟩ := hb.old)
      | (go_at_call 21; (first | (with_reducible refine (clip_is a a' _ HA.out).mono ?_) | (with_reducible refine (clip_is b b' _ HB.out).mono ?_)); rintro e w1 ⟨rfl, hb1⟩; replace hb := Ext.trans hb hb1; clear hb1; obtain ⟨hc1, hf1⟩ := hb.old)
      | (go_at_call 12; (first | (with_reducible refine (both_is a' c s _ (HT.out.ext hb) HC.out HS.out).mono ?_) | (with_reducible refine (both_is b' x y _ (HT.out.ext hb) HX.out HY.out).mono ?_)); rintro e w1 ⟨rfl, hb1⟩; replace hb := Ext.trans hb hb1; clear hb1; obtain ⟨hc1, hf1⟩ := hb.old)
      | (go_at_call 15; refine (sin_is (a' + b') z _ (HT.out.ext (by repeat (first | exact Ext.refl _ | assumption | exact Ext.alloc _ _ | refine Ext.trans ?_ (by assumption) | refine Ext.trans ?_ (Ext.alloc _ _) | refine Ext.trans ?_ (Ext.drewN _ _) | refine Ext.trans ?_ (Ext.drew _)))) HZ.out).mono ?_; rintro e w1 ⟨rfl, hb1⟩; (first | replace hb := Ext.trans hb hb1 | replace hb := Ext.trans (Ext.trans hb (Ext.drewN _ _)) hb1 | replace hb := Ext.trans (Ext.trans hb (Ext.alloc _ _)) hb1 | have hb := hb1); clear hb1; obtain ⟨hc1, hf1⟩ := hb.old))
  go_ret
  exact ⟨ret_true (decide_eq_true (by omega)), (by repeat (first | exact Ext.refl _ | assumption | exact Ext.alloc _ _ | refine Ext.trans ?_ (by assumption) | refine Ext.trans ?_ (Ext.alloc _ _) | refine Ext.trans ?_ (Ext.drewN _ _) | refine Ext.trans ?_ (Ext.drew _)))⟩
theorem sums_law (a b : Int) (w : World) (hT : TabS w) : Calls Tryd.prog 10 #[I a, I b] w fun e w' => e = .returned (.bool true) ∧ Ext w w' := sums_of a b _ _ _ _ _ _ _ w hT rfl rfl rfl rfl rfl rfl rfl

set_option maxRecDepth 100000 in
set_option maxHeartbeats 1000000 in
theorem symmetric_of (a b s c : Int) (w : World) (hT : TabS w) (hb : clp a (-1152921504606846976) 1152921504606846976 = b) (hs : sn b = s) (hc : cs b = c) : Calls Tryd.prog 7 #[I a] w fun e w' => e = .returned (.bool true) ∧ Ext w w' := by
  have bc := cs_bd b
  have bs := sn_bd b
  have bb := clp_bd a (-1152921504606846976) 1152921504606846976 (by omega)
  have e1 := sn_neg b
  have e2 := sn_half b
  have e3 := sn_quarter b
  have e4 := cs_neg b
  have e5 := (sn_mod (a := b + 65536) (b := b) (by omega)).1
  rw [hb] at bb
  rw [hs] at bs e1 e2 e5
  rw [hc] at bc e3 e4
  have HT := Lib.hid hT; clear hT
  have HB := Lib.hid hb; clear hb
  have HC := Lib.hid hc; clear hc
  have HS := Lib.hid hs; clear hs
  have E1 := Lib.hid e1; clear e1
  have E2 := Lib.hid e2; clear e2
  have E3 := Lib.hid e3; clear e3
  have E4 := Lib.hid e4; clear e4
  have E5 := Lib.hid e5; clear e5
  obtain ⟨c1, c2⟩ := bc
  obtain ⟨s1, s2⟩ := bs
  obtain ⟨b1, b2⟩ := bb
  go_enter Tryd.func7, Tryd.ntmps7
  go_wp2_with (first
      | (go_at_call 11; refine (awake_any _ HT.out).mono ?_; rintro e w1 ⟨rfl, hb1⟩; (first | replace hb := Ext.trans hb hb1 | replace hb := Ext.trans (Ext.trans hb (Ext.drewN _ _)) hb1 | replace hb := Ext.trans (Ext.trans hb (Ext.alloc _ _)) hb1 | have hb := hb1); clear hb1; obtain ⟨hc1, hf1⟩ := hb.old)
      | (go_at_call 21; refine (clip_is a b _ HB.out).mono ?_; rintro e w1 ⟨rfl, hb1⟩; (first | replace hb := Ext.trans hb hb1 | replace hb := Ext.trans (Ext.trans hb (Ext.drewN _ _)) hb1 | replace hb := Ext.trans (Ext.trans hb (Ext.alloc _ _)) hb1 | have hb := hb1); clear hb1; obtain ⟨hc1, hf1⟩ := hb.old)
      | (go_at_call 15; (first | (with_reducible refine (sin_is b s _ (HT.out.ext hb) HS.out).mono ?_) | (with_reducible refine (sin_is (-b) (-s) _ (HT.out.ext hb) E1.out).mono ?_) | (with_reducible refine (sin_is (32768 - b) s _ (HT.out.ext hb) E2.out).mono ?_) | (with_reducible refine (sin_is (b + 16384) c _ (HT.out.ext hb) E3.out).mono ?_) | (with_reducible refine (sin_is (b + 65536) s _ (HT.out.ext hb) E5.out).mono ?_)); rintro e w1 ⟨rfl, hb1⟩; replace hb := Ext.trans hb hb1; clear hb1; obtain ⟨hc1, hf1⟩ := hb.old)
      | (go_at_call 14; (first | (with_reducible refine (cos_is b c _ (HT.out.ext hb) HC.out).mono ?_) | (with_reducible refine (cos_is (-b) c _ (HT.out.ext hb) E4.out).mono ?_)); rintro e w1 ⟨rfl, hb1⟩; replace hb := Ext.trans hb hb1; clear hb1; obtain ⟨hc1, hf1⟩ := hb.old))
  go_ret
  exact ⟨rfl, (by repeat (first | exact Ext.refl _ | assumption | exact Ext.alloc _ _ | refine Ext.trans ?_ (by assumption) | refine Ext.trans ?_ (Ext.alloc _ _) | refine Ext.trans ?_ (Ext.drewN _ _) | refine Ext.trans ?_ (Ext.drew _)))⟩
theorem symmetric_law (a : Int) (w : World) (hT : TabS w) : Calls Tryd.prog 7 #[I a] w fun e w' => e = .returned (.bool true) ∧ Ext w w' := symmetric_of a _ _ _ w hT rfl rfl rfl
end Go.Proofs.YtphhbakadfjiiaaDoor
