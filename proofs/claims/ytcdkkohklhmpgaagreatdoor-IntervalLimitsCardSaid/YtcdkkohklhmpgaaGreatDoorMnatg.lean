/- Functions on natural numbers, part 7: shifts to the right. -/
import Derived.Test.YtcdkkohklhmpgaaGreatDoorMnatd
namespace Go.Proofs.YtcdkkohklhmpgaaGreatDoor

/-! ### Natg -/
section
open Go.RowKit

set_option maxRecDepth 100000 in
set_option maxHeartbeats 1000000 in
theorem shiftRight_any (A : Option Addr) (m n ca : Nat) (w : World) (ha : Rd w A (len m) (dg m)) (oa : SlOk A (len m) ca) (hL : len m ≤ 1073741824) (hn : n ≤ 1073741824) :
    Calls Tryz.prog 158 #[.slice A (len m) ca, I n] w (NatRes (m / 2 ^ n) w) := by
  have HA := Lib.hid ha; clear ha
  obtain ⟨hca, hcm, _⟩ := oa
  unfold maxLen at hcm
  obtain ⟨L, hLe⟩ : ∃ L, len m = L := ⟨_, rfl⟩
  rw [hLe] at hL HA hca ⊢
  have HLe := Lib.hid hLe; clear hLe
  obtain ⟨q, hq'⟩ : ∃ q, n / 32 = q := ⟨_, rfl⟩
  obtain ⟨r, hr'⟩ : ∃ r, n % 32 = r := ⟨_, rfl⟩
  have hr32 : r < 32 := by omega
  have hqn : q ≤ n := by omega
  have hq : (n : Int) / 32 = (q : Int) := by omega
  have hr : (n : Int) % 32 = (r : Int) := by omega
  have HQ := Lib.hid hq'; clear hq'
  have HR := Lib.hid hr'; clear hr'
  have hl : len (m / 2 ^ n) ≤ L - q := by
    rw [two_pow_split, ← Nat.div_div_eq_div_mul, HQ.out]
    have := len_mono (Nat.div_le_self (m / pB q) (2 ^ (n % 32)))
    rw [len_div, HLe.out] at this
    exact this
  have HL := Lib.hid hl; clear hl
  by_cases hql : L ≤ q
  · have h0 : m / 2 ^ n = 0 := by have := HL.out; exact len_eq_zero.1 (by omega)
    have H0 := Lib.hid h0; clear h0
    go_enter Tryz.func158, Tryz.ntmps158
    go_wp2
    go_ret
    exact ⟨none, 0, by rw [H0.out, len_zero]; rfl, by show On _ _ none (len (m / 2 ^ n)) 0 _; rw [H0.out, len_zero]; exact On.nil _ _ _, Ext.refl _⟩
  · obtain ⟨b, o, rfl, hb, hc⟩ := HA.out (by omega)
    have hsub : Hid (Rd w (some ⟨b, o + q, none⟩) (L - q) (fun i => dg m (q + i))) := fun _ => ⟨b, o + q, rfl, hb, fun i hi => by rw [Nat.add_assoc]; exact hc (q + i) (by omega)⟩
    have HC := Lib.hid hc; clear hc
    have HB := Lib.hid hb; clear hb
    obtain ⟨K, hK'⟩ : ∃ K, L - q = K := ⟨_, rfl⟩
    have hK : L = q + K := by omega
    have hK0 : 0 < K := by omega
    rw [hK'] at hsub HL
    clear hK'
    subst hK
    have hcq : ca ≠ q := by omega
    have h1 : ((K : Int) = 0) = False := by simp; omega
    have hok : Hid (SlOk (some ⟨b, o + q, none⟩) K (ca - q)) := ⟨by omega, by unfold maxLen; omega, fun e => by cases e⟩
    go_enter Tryz.func158, Tryz.ntmps158
    go_wp2_with (go_at_call 208; refine (clone_any _ _ _ _ _ hsub.out hok.out (by omega)).mono ?_; rintro e w1 ⟨A1, c1, rfl, hon, hx⟩)
    have hON := Lib.hid hon
    have hXX := Lib.hid hx
    clear hon hx
    obtain ⟨rfl, hz, _⟩ | ⟨g, rfl, hrow⟩ := hON.out.cases
    · omega
    have hR0 := Lib.hid hrow
    have hg : Hid (w.heap.size ≤ g) := hrow.lt.1
    clear hrow hON
    go_loopw [23] (fun si wr => ∃ (i : Nat) (F : Nat → Nat), i ≤ K ∧ si = I i ∧ Hid (Row wr w.heap.size g K c1 F) ∧ Hid (Ext w wr) ∧ Hid (∀ j, j < i → F j = dg (m / 2 ^ n) j) ∧ Hid (∀ j, i ≤ j → F j = dg m (q + j)) ∧ Hid (∀ j, j < K → F j < 4294967296)) (fun si _ => K - (intOf si).toNat)
    case atStart => exact ⟨0, _, Nat.zero_le _, rfl, hR0, hXX, (fun j h => by omega), (fun _ _ => rfl), (fun _ _ => dg_lt _ _)⟩
    case round =>
      clear hR0 hXX
      obtain ⟨i, F, hi, rfl, hR, hX, hD, hS, hB'⟩ := hrel
      by_cases hlt : i < K
      · have c1 := hR.out.cell (k := i) hlt
        have f1 := hR.out.frozen i
        have hxl := hB'.out i hlt
        obtain ⟨x, hxe⟩ : ∃ x, F i = x := ⟨_, rfl⟩
        rw [hxe] at c1 hxl
        have hxd : dg m (q + i) = x := by rw [← hxe]; exact (hS.out i (Nat.le_refl _)).symm
        have HX := Lib.hid hxd; clear hxd hxe
        obtain ⟨v, hv⟩ : ∃ v, x / 2 ^ r = v := ⟨_, rfl⟩
        have ev : (x : Int) / 2 ^ r = (v : Int) := by rw [← hv]; simp
        have hvb : v < 4294967296 := by rw [← hv]; exact Nat.lt_of_le_of_lt (Nat.div_le_self _ _) hxl
        have hdg := dg_shr m n i
        rw [HQ.out, HR.out, HX.out] at hdg
        by_cases hlast : q + i + 1 < q + K
        · have c2 : wr.cell? ⟨b, o + (q + i + 1), none⟩ = some (U4 (dg m (q + i + 1))) := (hX.out.old.1 _ _ HB.out).trans (HC.out (q + i + 1) hlast)
          have hyl := dg_lt m (q + i + 1)
          obtain ⟨y, hye⟩ : ∃ y, dg m (q + i + 1) = y := ⟨_, rfl⟩
          rw [hye] at c2 hyl hdg
          clear hye
          obtain ⟨u, hu⟩ : ∃ u, y * 4294967296 / 2 ^ r = u := ⟨_, rfl⟩
          have eu : (y : Int) * 4294967296 / 2 ^ r = (u : Int) := by rw [← hu]; simp
          obtain ⟨t, ht⟩ : ∃ t, u % 4294967296 = t := ⟨_, rfl⟩
          have htb : t < 4294967296 := by omega
          have et : (u : Int) % 4294967296 = (t : Int) := by omega
          have hor := shr_or (y := y) hxl hr32
          rw [hv, hu, ht, ← hdg] at hor
          obtain ⟨z, hz⟩ : ∃ z, dg (m / 2 ^ n) i = z := ⟨_, rfl⟩
          rw [hz] at hor
          have ez : bits BinOp.or IntKind.u32 (v : Int) (t : Int) = (z : Int) := by rw [or_nat32 hvb htb, hor]
          have hzb : z < 4294967296 := by rw [← hz]; exact dg_lt _ _
          have ezz : Hid (bits BinOp.or IntKind.u32 (v : Int) ((y : Int) * 4294967296 / 2 ^ r % 4294967296) = (z : Int)) := by
            show _ = _
            rw [eu, et, ez]
          have HZ := Lib.hid hz
          clear hz hor ht hu hdg hv
          have hbg : b ≠ g := by have := HB.out; have := hg.out; omega
          have i1 : (0 : Int) ≤ (i : Int) := by omega
          have i2 : (i : Int) < (K : Int) := by omega
          have i3 : (0 : Int) ≤ (q : Int) + (i : Int) + 1 := by omega
          have i4 : (q : Int) + (i : Int) + 1 < (q : Int) + (K : Int) := by omega
          have e3 : IntKind.i64.wrap ((q : Int) + (i : Int)) = (q : Int) + (i : Int) := IntWalk.i64_in _ (by omega)
          have e4 : IntKind.i64.wrap ((q : Int) + (i : Int) + 1) = (q : Int) + (i : Int) + 1 := IntWalk.i64_in _ (by omega)
          have e5 : ((q : Int) + (i : Int) + 1).toNat = q + i + 1 := by omega
          have hfr : Hid (Ext w (wr.setCell ⟨g, i, none⟩ (U4 v))) := Ext.set hX.out hg.out _
          go_wp2
          go_region_with (fail)
          all_goals
            go_wp2_with fail
            go_roundw
            case rel =>
              rw [ezz.out]
              refine ⟨i + 1, upd (upd F i v) i z, by omega, by go_num, Row.set (Row.set hR.out _ _).drew _ _, (Ext.set (hfr.out.trans (Ext.drew _)) hg.out _), ?_, ?_, upd_lt (upd_lt hB'.out hvb) hzb⟩
              · exact fun j hj => by
                  by_cases e : j = i
                  · subst e; rw [upd_same, HZ.out]
                  · rw [upd_ne _ e, upd_ne _ e]; exact hD.out j (by omega)
              · exact fun j hj => by rw [upd_ne _ (by omega), upd_ne _ (by omega)]; exact hS.out j (by omega)
            case measure => simp [intOf]; omega
        · have hi1 : i + 1 = K := by omega
          have hv2 : Hid (v = dg (m / 2 ^ n) i) := by
            show _ = _
            rw [dg_high (m := m) (i := q + i + 1) (by rw [HLe.out]; omega), Nat.zero_mul, Nat.add_zero, hv, Nat.mod_eq_of_lt hvb] at hdg
            exact hdg.symm
          clear hdg hv
          go_wp2
          go_roundw
          case rel =>
            refine ⟨i + 1, upd F i v, by omega, by go_num, Row.set hR.out _ _, Ext.set hX.out hg.out _, ?_, ?_, upd_lt hB'.out hvb⟩
            · exact fun j hj => by
                by_cases e : j = i
                · subst e; rw [upd_same, ← hv2.out]
                · rw [upd_ne _ e]; exact hD.out j (by omega)
            · exact fun j hj => by rw [upd_ne _ (by omega)]; exact hS.out j (by omega)
          case measure => simp [intOf]; omega
      · obtain rfl : i = K := by omega
        have hE : Hid (valN F i = m / 2 ^ n) := by
          show _ = _
          rw [valN_congr hD.out, valN_dg_all HL.out]
        go_wp2_with (go_at_call 207; refine (trim_any _ _ _ F _ hR.out.rd hB'.out hR.out.cap.1 hR.out.cap.2).mono ?_; rintro e w4 ⟨rfl, rfl⟩)
        go_ret
        exact natRes_of hR.out hB'.out hE.out rfl hX.out

set_option maxRecDepth 100000 in
set_option maxHeartbeats 1000000 in
theorem ofInt_any (n : Int) (w : World) (h1 : -9223372036854775808 ≤ n) (h2 : n ≤ 9223372036854775807) :
    Calls Tryz.prog 152 #[I n] w (NatRes n.natAbs w) := by
  obtain ⟨a, ha⟩ : ∃ a, n.natAbs = a := ⟨_, rfl⟩
  obtain ⟨lo, hlo⟩ : ∃ lo, dg a 0 = lo := ⟨_, rfl⟩
  obtain ⟨hi, hhi⟩ : ∃ hi, dg a 1 = hi := ⟨_, rfl⟩
  have hab : a ≤ 9223372036854775808 := by omega
  have e1 : (a : Int) % 4294967296 = (lo : Int) := by rw [dg_zero] at hlo; omega
  have e2' : a / 4294967296 % 4294967296 = hi := by rw [← hhi]; rfl
  have e2 : (a : Int) / 4294967296 % 4294967296 = (hi : Int) := by omega
  have HR : Hid (Row (w.alloc (.cells #[U4 lo, U4 hi] 153)) w.heap.size w.heap.size 2 2 (dg a)) := by
    have := World.ownsRow_lit (e := 153) (size := 1) w #[U4 lo, U4 hi] 2 (Nat.le_refl _) (by unfold maxLen; omega) rfl
    show World.ownsRow _ _ _ _ _ _ _
    rw [show wl (dg a) 2 = [U4 lo, U4 hi] by rw [← hlo, ← hhi]; rfl]
    exact this
  have HE : Hid (valN (dg a) 2 = a) := by
    refine valN_dg_all (len_le ?_)
    show a < 4294967296 ^ 2
    omega
  clear e2' hlo hhi
  rw [ha]
  by_cases h : n < 0
  · have e0 : IntKind.u64.wrap (-IntKind.u64.wrap n) = (a : Int) := by
      show (-(n % 18446744073709551616)) % 18446744073709551616 = _
      omega
    clear ha hab
    go_enter Tryz.func152, Tryz.ntmps152
    go_wp2_with (go_at_call 207; refine (trim_any _ 2 2 (dg a) _ HR.out.rd (wf_dg a) HR.out.cap.1 HR.out.cap.2).mono ?_; rintro e w4 ⟨rfl, rfl⟩)
    go_ret
    exact natRes_of HR.out (wf_dg a) HE.out rfl (Ext.alloc _ _)
  · have e0 : IntKind.u64.wrap n = (a : Int) := by
      show n % 18446744073709551616 = _
      omega
    have h' : 0 ≤ n := by omega
    clear ha hab
    go_enter Tryz.func152, Tryz.ntmps152
    go_wp2_with (go_at_call 207; refine (trim_any _ 2 2 (dg a) _ HR.out.rd (wf_dg a) HR.out.cap.1 HR.out.cap.2).mono ?_; rintro e w4 ⟨rfl, rfl⟩)
    go_ret
    exact natRes_of HR.out (wf_dg a) HE.out rfl (Ext.alloc _ _)
end

/-! ### Nath -/
section
open Go.RowKit

/-- One step of the inner loop of a product. -/
theorem mul_step {V W x y z c i j t N : Nat} (h : V + c * pB (i + j) = W + x * (N % pB j) * pB i) (hy : dg N j = y) (ht : c + (x * y + z) = t) :
    V + t % 4294967296 * pB (i + j) + t / 4294967296 * pB (i + (j + 1)) = W + z * pB (i + j) + x * (N % pB (j + 1)) * pB i := by
  have h1 := Nat.div_add_mod t 4294967296
  have h2 := congrArg (· * pB (i + j)) h1
  have h3 := congrArg (· * pB (i + j)) ht
  simp only [Nat.add_mul] at h2 h3
  rw [show i + (j + 1) = i + j + 1 by omega, pB_succ, mod_pB_succ, hy, ← Nat.mul_assoc, Nat.mul_comm (t / _), Nat.mul_add, Nat.add_mul]
  have e : x * (y * pB j) * pB i = x * y * pB (i + j) := by
    rw [pB_add]; generalize pB i = a; generalize pB j = b
    simp only [Nat.mul_comm, Nat.mul_left_comm]
  rw [e]
  omega
theorem mul_carry {x y z c t : Nat} (hx : x < 4294967296) (hy : y < 4294967296) (hz : z < 4294967296) (hc : c < 4294967296) (ht : c + (x * y + z) = t) : t < 18446744073709551616 ∧ t / 4294967296 < 4294967296 ∧ x * y < 18446744073709551616 ∧ x * y + z < 18446744073709551616 := by
  have h1 : x * y ≤ 4294967295 * 4294967295 := Nat.mul_le_mul (by omega) (by omega)
  omega
/-- One step of the outer loop. -/
theorem mul_outer {V W M N i c l : Nat} (hN : len N = l) (hW : W = M % pB i * N) (hv : V + c * pB (i + l) = W + dg M i * (N % pB l) * pB i) : V + c * pB (i + l) = M % pB (i + 1) * N := by
  rw [hv, hW, Nat.mod_eq_of_lt (a := N) (lt_pB (by omega)), mod_pB_succ, Nat.add_mul]
  congr 1
  generalize dg M i = a; generalize pB i = b
  simp only [Nat.mul_comm, Nat.mul_left_comm]
theorem wrap_u64_nat {n : Nat} (h : n < 18446744073709551616) : IntKind.u64.wrap (n : Int) = (n : Int) := by
  show (n : Int) % 18446744073709551616 = n; omega

set_option maxRecDepth 100000 in
set_option maxHeartbeats 1000000 in
theorem product_any (A B : Option Addr) (m n ca cb : Nat) (w : World) (ha : Rd w A (len m) (dg m)) (hb' : Rd w B (len n) (dg n)) (hL : len m ≤ 1073741824) (hM : len n ≤ 1073741824) :
    Calls Tryz.prog 229 #[.slice A (len m) ca, .slice B (len n) cb] w (NatRes (m * n) w) := by
  have HA := Lib.hid ha; clear ha
  have HB := Lib.hid hb'; clear hb'
  obtain ⟨L, hLe⟩ : ∃ L, len m = L := ⟨_, rfl⟩
  obtain ⟨l, hle⟩ : ∃ l, len n = l := ⟨_, rfl⟩
  rw [hLe] at hL HA ⊢
  rw [hle] at hM HB ⊢
  have HLe := Lib.hid hLe; clear hLe
  have Hle := Lib.hid hle; clear hle
  obtain ⟨w1, hrun, hrow, hx⟩ := run_make_row w (L + l) (by omega)
  rw [show ((L + l : Nat) : Int) = (L : Int) + (l : Int) by omega] at hrun
  have hR0 := Lib.hid hrow
  have hX0 := Lib.hid hx
  clear hrow hx
  go_enter Tryz.func229, Tryz.ntmps229
  go_wp2
  clear hrun
  go_loopw [19] (fun si wr => ∃ (i : Nat) (F : Nat → Nat), i ≤ L ∧ si = I i ∧ Hid (Row wr w.heap.size w.heap.size (L + l) (L + l) F) ∧ Hid (Ext w wr) ∧ Hid (∀ j, i + l ≤ j → F j = 0) ∧ Hid (∀ j, j < L + l → F j < 4294967296) ∧ Hid (valN F (i + l) = m % pB i * n)) (fun si _ => L - (intOf si).toNat)
  case atStart => exact ⟨0, _, Nat.zero_le _, rfl, hR0, hX0, (fun _ _ => rfl), (fun _ _ => by show (0:Nat) < _; decide), by show _ = _; rw [valN_zeros (f := fun _ => 0) (t := 0) (Nat.zero_le _) (fun _ _ _ => rfl)]; simp [valN, pB_zero, Nat.mod_one]⟩
  case round =>
    clear hR0 hX0
    obtain ⟨i, F, hi, rfl, hR, hX, hZ, hB, hv⟩ := hrel
    by_cases hlt : i < L
    · obtain ⟨b2, o2, rfl, hb2, c2⟩ := (HA.out.ext hX.out).at_ hlt
      have hxl := dg_lt m i
      obtain ⟨x, hxe⟩ : ∃ x, dg m i = x := ⟨_, rfl⟩
      rw [hxe] at c2 hxl
      have HX := Lib.hid hxe; clear hxe
      go_wp2
      clear c2 hb2
      go_loopw [8, 26] (fun sc sj wq => ∃ (j c : Nat) (G : Nat → Nat), j ≤ l ∧ sj = I j ∧ sc = U8 c ∧ c < 4294967296 ∧ Hid (Row wq w.heap.size w.heap.size (L + l) (L + l) G) ∧ Hid (Ext w wq) ∧ Hid (∀ k, i + j ≤ k → G k = F k) ∧ Hid (∀ j, j < L + l → G j < 4294967296) ∧ Hid (valN G (i + j) + c * pB (i + j) = valN F (i + j) + x * (n % pB j) * pB i)) (fun _ sj _ => l - (intOf sj).toNat)
      case atStart => exact ⟨0, 0, F, Nat.zero_le _, rfl, rfl, by omega, hR, hX, (fun _ _ => rfl), hB.out, by show _ = _; simp [pB_zero, Nat.mod_one]⟩
      case round =>
        clear hR hX hB
        obtain ⟨j, c, G, hj, rfl, rfl, hc, hR, hX, hK, hB, hw⟩ := hrel
        by_cases hlt2 : j < l
        · obtain ⟨b3, o3, rfl, hb3, c3⟩ := (HB.out.ext hX.out).at_ hlt2
          have c1 := hR.out.cell (k := i + j) (by omega)
          have f1 := hR.out.frozen (i + j)
          have hzl := hB.out (i + j) (by omega)
          have hyl := dg_lt n j
          obtain ⟨z, hze⟩ : ∃ z, G (i + j) = z := ⟨_, rfl⟩
          have hzF : Hid (F (i + j) = z) := by rw [← hze]; exact (hK.out _ (Nat.le_refl _)).symm
          rw [hze] at c1 hzl
          clear hze
          obtain ⟨y, hye⟩ : ∃ y, dg n j = y := ⟨_, rfl⟩
          rw [hye] at c3 hyl
          obtain ⟨t, ht⟩ : ∃ t, c + (x * y + z) = t := ⟨_, rfl⟩
          obtain ⟨t1, t2, t3, t4⟩ := mul_carry hxl hyl hzl hc ht
          have hs := mul_step hw.out hye ht
          obtain ⟨p, hp⟩ : ∃ p, x * y = p := ⟨_, rfl⟩
          rw [hp] at ht t3 t4
          have e1 : (x : Int) * (y : Int) = (p : Int) := by rw [← hp]; simp
          have e2 : (c : Int) + ((p : Int) + (z : Int)) = (t : Int) := by omega
          obtain ⟨lo, hlo⟩ : ∃ lo, t % 4294967296 = lo := ⟨_, rfl⟩
          obtain ⟨hi', hhi⟩ : ∃ hi', t / 4294967296 = hi' := ⟨_, rfl⟩
          have e3 : (t : Int) % 4294967296 = (lo : Int) := by omega
          have e4 : (t : Int) / 4294967296 = (hi' : Int) := by omega
          rw [hlo, hhi] at hs
          rw [hhi] at t2
          have hlob : lo < 4294967296 := by omega
          have HS := Lib.hid hs
          clear hs hp ht hlo hhi hw hye
          go_wp2
          go_roundw
          case rel =>
            refine ⟨j + 1, hi', upd G (i + j) lo, by omega, by go_num, rfl, t2, Row.set hR.out _ _, Ext.set hX.out (Nat.le_refl _) _, ?_, upd_lt hB.out hlob, ?_⟩
            · exact fun k hk => by rw [upd_ne _ (by omega)]; exact hK.out k (by omega)
            · show _ = _
              rw [show i + (j + 1) = i + j + 1 by omega, valN_upd, valN, hzF.out]
              exact HS.out
          case measure => simp [intOf]; omega
        · obtain rfl : j = l := by omega
          have c1 := hR.out.cell (k := i + j) (by omega)
          have f1 := hR.out.frozen (i + j)
          have ho := Lib.hid (mul_outer (c := c) Hle.out hv.out (by rw [HX.out]; exact hw.out))
          clear hw
          have e3 : (c : Int) % 4294967296 = (c : Int) := by omega
          go_wp2
          go_roundw
          case rel =>
            refine ⟨i + 1, upd G (i + j) c, by omega, by go_num, Row.set hR.out _ _, Ext.set hX.out (Nat.le_refl _) _, ?_, upd_lt hB.out hc, ?_⟩
            · exact fun k hk => by rw [upd_ne _ (by omega), hK.out k (by omega)]; exact hZ.out k (by omega)
            · show _ = _
              rw [show i + 1 + j = i + j + 1 by omega, valN_upd]
              exact ho.out
          case measure => simp [intOf]; omega
    · obtain rfl : i = L := by omega
      have hE : Hid (valN F (i + l) = m * n) := by
        show _ = _
        rw [hv.out, Nat.mod_eq_of_lt (lt_pB (by rw [HLe.out]; omega))]
      clear hv
      go_wp2_with (go_at_call 207; refine (trim_any _ _ _ F _ hR.out.rd hB.out hR.out.cap.1 hR.out.cap.2).mono ?_; rintro e w4 ⟨rfl, rfl⟩)
      go_ret
      exact natRes_of hR.out hB.out hE.out rfl hX.out
end

end Go.Proofs.YtcdkkohklhmpgaaGreatDoor
