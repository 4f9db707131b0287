/- Functions on natural numbers, part 8: products. -/
import Derived.Test.YtgmmcfnahfcadaaDoorNatg
namespace Go.Proofs.YtgmmcfnahfcadaaDoor
open Go.RowKit

/-- One step of the inner loop of a product. -/
theorem mul_step {V W x y z c i j t N : Nat} (h : V + c * pB (i + j) = W + x * (N % pB j) * pB i) (hy : dg N j = y) (ht : c + (x * y + z) = t) :
    V + t % 4294967296 * pB (i + j) + t / 4294967296 * pB (i + (j + 1)) = W + z * pB (i + j) + x * (N % pB (j + 1)) * pB i := by
  have h1 := Nat.div_add_mod t 4294967296
  have h2 := congrArg (· * pB (i + j)) h1
  have h3 := congrArg (· * pB (i + j)) ht
  simp only [Nat.add_mul] at h2 h3
  rw [show i + (j + 1) = i + j + 1 by omega, pB_succ, mod_pB_succ, hy, ← Nat.mul_assoc, Nat.mul_comm (t / _), Nat.mul_add, Nat.add_mul]
  have e : x * (y * pB j) * pB i = x * y * pB (i + j) := by
    rw [pB_add]; generalize pB i = a; generalize pB j = b
    simp only [Nat.mul_comm, Nat.mul_left_comm]
  rw [e]
  omega
theorem mul_carry {x y z c t : Nat} (hx : x < 4294967296) (hy : y < 4294967296) (hz : z < 4294967296) (hc : c < 4294967296) (ht : c + (x * y + z) = t) : t < 18446744073709551616 ∧ t / 4294967296 < 4294967296 ∧ x * y < 18446744073709551616 ∧ x * y + z < 18446744073709551616 := by
  have h1 : x * y ≤ 4294967295 * 4294967295 := Nat.mul_le_mul (by omega) (by omega)
  omega
/-- One step of the outer loop. -/
theorem mul_outer {V W M N i c l : Nat} (hN : len N = l) (hW : W = M % pB i * N) (hv : V + c * pB (i + l) = W + dg M i * (N % pB l) * pB i) : V + c * pB (i + l) = M % pB (i + 1) * N := by
  rw [hv, hW, Nat.mod_eq_of_lt (a := N) (lt_pB (by omega)), mod_pB_succ, Nat.add_mul]
  congr 1
  generalize dg M i = a; generalize pB i = b
  simp only [Nat.mul_comm, Nat.mul_left_comm]
theorem wrap_u64_nat {n : Nat} (h : n < 18446744073709551616) : IntKind.u64.wrap (n : Int) = (n : Int) := by
  show (n : Int) % 18446744073709551616 = n; omega

set_option maxRecDepth 100000 in
set_option maxHeartbeats 1000000 in
theorem product_any (A B : Option Addr) (m n ca cb : Nat) (w : World) (ha : Rd w A (len m) (dg m)) (hb' : Rd w B (len n) (dg n)) (hL : len m ≤ 1073741824) (hM : len n ≤ 1073741824) :
    Calls Tryd.prog 78 #[.slice A (len m) ca, .slice B (len n) cb] w (NatRes (m * n) w) := by
  have HA := Lib.hid ha; clear ha
  have HB := Lib.hid hb'; clear hb'
  obtain ⟨L, hLe⟩ : ∃ L, len m = L := ⟨_, rfl⟩
  obtain ⟨l, hle⟩ : ∃ l, len n = l := ⟨_, rfl⟩
  rw [hLe] at hL HA ⊢
  rw [hle] at hM HB ⊢
  have HLe := Lib.hid hLe; clear hLe
  have Hle := Lib.hid hle; clear hle
  obtain ⟨w1, hrun, hrow, hx⟩ := run_make_row w (L + l) (by omega)
  rw [show ((L + l : Nat) : Int) = (L : Int) + (l : Int) by omega] at hrun
  have hR0 := Lib.hid hrow
  have hX0 := Lib.hid hx
  clear hrow hx
  go_enter Tryd.func78, Tryd.ntmps78
  go_wp2
  clear hrun
  go_loopw [19] (fun si wr => ∃ (i : Nat) (F : Nat → Nat), i ≤ L ∧ si = I i ∧ Hid (Row wr w.heap.size w.heap.size (L + l) (L + l) F) ∧ Hid (Ext w wr) ∧ Hid (∀ j, i + l ≤ j → F j = 0) ∧ Hid (∀ j, j < L + l → F j < 4294967296) ∧ Hid (valN F (i + l) = m % pB i * n)) (fun si _ => L - (intOf si).toNat)
  case atStart => exact ⟨0, _, Nat.zero_le _, rfl, hR0, hX0, (fun _ _ => rfl), (fun _ _ => by show (0:Nat) < _; decide), by show _ = _; rw [valN_zeros (f := fun _ => 0) (t := 0) (Nat.zero_le _) (fun _ _ _ => rfl)]; simp [valN, pB_zero, Nat.mod_one]⟩
  case round =>
    clear hR0 hX0
    obtain ⟨i, F, hi, rfl, hR, hX, hZ, hB, hv⟩ := hrel
    by_cases hlt : i < L
    · obtain ⟨b2, o2, rfl, hb2, c2⟩ := (HA.out.ext hX.out).at_ hlt
      have hxl := dg_lt m i
      obtain ⟨x, hxe⟩ : ∃ x, dg m i = x := ⟨_, rfl⟩
      rw [hxe] at c2 hxl
      have HX := Lib.hid hxe; clear hxe
      go_wp2
      clear c2 hb2
      go_loopw [8, 26] (fun sc sj wq => ∃ (j c : Nat) (G : Nat → Nat), j ≤ l ∧ sj = I j ∧ sc = U8 c ∧ c < 4294967296 ∧ Hid (Row wq w.heap.size w.heap.size (L + l) (L + l) G) ∧ Hid (Ext w wq) ∧ Hid (∀ k, i + j ≤ k → G k = F k) ∧ Hid (∀ j, j < L + l → G j < 4294967296) ∧ Hid (valN G (i + j) + c * pB (i + j) = valN F (i + j) + x * (n % pB j) * pB i)) (fun _ sj _ => l - (intOf sj).toNat)
      case atStart => exact ⟨0, 0, F, Nat.zero_le _, rfl, rfl, by omega, hR, hX, (fun _ _ => rfl), hB.out, by show _ = _; simp [pB_zero, Nat.mod_one]⟩
      case round =>
        clear hR hX hB
        obtain ⟨j, c, G, hj, rfl, rfl, hc, hR, hX, hK, hB, hw⟩ := hrel
        by_cases hlt2 : j < l
        · obtain ⟨b3, o3, rfl, hb3, c3⟩ := (HB.out.ext hX.out).at_ hlt2
          have c1 := hR.out.cell (k := i + j) (by omega)
          have f1 := hR.out.frozen (i + j)
          have hzl := hB.out (i + j) (by omega)
          have hyl := dg_lt n j
          obtain ⟨z, hze⟩ : ∃ z, G (i + j) = z := ⟨_, rfl⟩
          have hzF : Hid (F (i + j) = z) := by rw [← hze]; exact (hK.out _ (Nat.le_refl _)).symm
          rw [hze] at c1 hzl
          clear hze
          obtain ⟨y, hye⟩ : ∃ y, dg n j = y := ⟨_, rfl⟩
          rw [hye] at c3 hyl
          obtain ⟨t, ht⟩ : ∃ t, c + (x * y + z) = t := ⟨_, rfl⟩
          obtain ⟨t1, t2, t3, t4⟩ := mul_carry hxl hyl hzl hc ht
          have hs := mul_step hw.out hye ht
          obtain ⟨p, hp⟩ : ∃ p, x * y = p := ⟨_, rfl⟩
          rw [hp] at ht t3 t4
          have e1 : (x : Int) * (y : Int) = (p : Int) := by rw [← hp]; simp
          have e2 : (c : Int) + ((p : Int) + (z : Int)) = (t : Int) := by omega
          obtain ⟨lo, hlo⟩ : ∃ lo, t % 4294967296 = lo := ⟨_, rfl⟩
          obtain ⟨hi', hhi⟩ : ∃ hi', t / 4294967296 = hi' := ⟨_, rfl⟩
          have e3 : (t : Int) % 4294967296 = (lo : Int) := by omega
          have e4 : (t : Int) / 4294967296 = (hi' : Int) := by omega
          rw [hlo, hhi] at hs
          rw [hhi] at t2
          have hlob : lo < 4294967296 := by omega
          have HS := Lib.hid hs
          clear hs hp ht hlo hhi hw hye
          go_wp2
          go_roundw
          case rel =>
            refine ⟨j + 1, hi', upd G (i + j) lo, by omega, by go_num, rfl, t2, Row.set hR.out _ _, Ext.set hX.out (Nat.le_refl _) _, ?_, upd_lt hB.out hlob, ?_⟩
            · exact fun k hk => by rw [upd_ne _ (by omega)]; exact hK.out k (by omega)
            · show _ = _
              rw [show i + (j + 1) = i + j + 1 by omega, valN_upd, valN, hzF.out]
              exact HS.out
          case measure => simp [intOf]; omega
        · obtain rfl : j = l := by omega
          have c1 := hR.out.cell (k := i + j) (by omega)
          have f1 := hR.out.frozen (i + j)
          have ho := Lib.hid (mul_outer (c := c) Hle.out hv.out (by rw [HX.out]; exact hw.out))
          clear hw
          have e3 : (c : Int) % 4294967296 = (c : Int) := by omega
          go_wp2
          go_roundw
          case rel =>
            refine ⟨i + 1, upd G (i + j) c, by omega, by go_num, Row.set hR.out _ _, Ext.set hX.out (Nat.le_refl _) _, ?_, upd_lt hB.out hc, ?_⟩
            · exact fun k hk => by rw [upd_ne _ (by omega), hK.out k (by omega)]; exact hZ.out k (by omega)
            · show _ = _
              rw [show i + 1 + j = i + j + 1 by omega, valN_upd]
              exact ho.out
          case measure => simp [intOf]; omega
    · obtain rfl : i = L := by omega
      have hE : Hid (valN F (i + l) = m * n) := by
        show _ = _
        rw [hv.out, Nat.mod_eq_of_lt (lt_pB (by rw [HLe.out]; omega))]
      clear hv
      go_wp2_with (go_at_call 101; refine (trim_any _ _ _ F _ hR.out.rd hB.out hR.out.cap.1 hR.out.cap.2).mono ?_; rintro e w4 ⟨rfl, rfl⟩)
      go_ret
      exact natRes_of hR.out hB.out hE.out rfl hX.out

end Go.Proofs.YtgmmcfnahfcadaaDoor
