/- Functions on natural numbers, part 6: shifts. -/
import Derived.Test.YtgmmcfnahfcadaaDoorNate
namespace Go.Proofs.YtgmmcfnahfcadaaDoor
open Go.RowKit

set_option maxRecDepth 100000 in
set_option maxHeartbeats 1000000 in
theorem shiftLeft_any (A : Option Addr) (m n ca : Nat) (w : World) (ha : Rd w A (len m) (dg m)) (hL : len m ≤ 1073741824) (hn : n ≤ 1073741824) :
    Calls Tryd.prog 73 #[.slice A (len m) ca, I n] w (NatRes (m * 2 ^ n) w) := by
  have HA := Lib.hid ha; clear ha
  obtain ⟨L, hLe⟩ : ∃ L, len m = L := ⟨_, rfl⟩
  rw [hLe] at hL HA ⊢
  have HLe := Lib.hid hLe; clear hLe
  obtain ⟨q, hq'⟩ : ∃ q, n / 32 = q := ⟨_, rfl⟩
  obtain ⟨r, hr'⟩ : ∃ r, n % 32 = r := ⟨_, rfl⟩
  have hr32 : r < 32 := by omega
  have hqn : q ≤ n := by omega
  have hq : (n : Int) / 32 = (q : Int) := by omega
  have hr : (n : Int) % 32 = (r : Int) := by omega
  have HQ := Lib.hid hq'; clear hq'
  have HR := Lib.hid hr'; clear hr'
  obtain ⟨w1, hrun, hrow, hx⟩ := run_make_row w (q + L + 1) (by omega)
  rw [show ((q + L + 1 : Nat) : Int) = (q : Int) + (L : Int) + 1 by omega] at hrun
  have hR0 := Lib.hid hrow
  have hX0 := Lib.hid hx
  clear hrow hx
  go_enter Tryd.func73, Tryd.ntmps73
  go_wp2
  clear hrun
  go_loopw [23] (fun si wr => ∃ (i c : Nat) (F : Nat → Nat), i ≤ L ∧ si = I i ∧ c < 2 ^ r ∧ F (q + i) = c ∧ Hid (Row wr w.heap.size w.heap.size (q + L + 1) (q + L + 1) F) ∧ Hid (Ext w wr) ∧ Hid (∀ j, q + i < j → F j = 0) ∧ Hid (∀ j, j < q + L + 1 → F j < 4294967296) ∧ Hid (valN F (q + i) + c * pB (q + i) = m % pB i * 2 ^ n)) (fun si _ => L - (intOf si).toNat)
  case atStart => exact ⟨0, 0, _, Nat.zero_le _, rfl, p2_pos _, rfl, hR0, hX0, (fun _ _ => rfl), (fun _ _ => by show (0:Nat) < _; decide), by show _ = _; rw [valN_zeros (f := fun _ => 0) (t := 0) (Nat.zero_le _) (fun _ _ _ => rfl)]; simp [valN, pB_zero, Nat.mod_one]⟩
  case round =>
    clear hR0 hX0
    obtain ⟨i, c, F, hi, rfl, hc, hFc, hR, hX, hZ, hB, hv⟩ := hrel
    by_cases hlt : i < L
    · obtain ⟨b2, o2, rfl, hb2, c2⟩ := (HA.out.ext hX.out).at_ hlt
      have f1 := hR.out.frozen (q + i)
      have f2 := hR.out.frozen (q + i + 1)
      have c1 := hR.out.cell (k := q + i) (by omega)
      have c3 := hR.out.cell (k := q + i + 1) (by omega)
      rw [hFc] at c1
      rw [hZ.out (q + i + 1) (by omega)] at c3
      have HF := Lib.hid hFc; clear hFc
      have hxl := dg_lt m i
      obtain ⟨x, hxe⟩ : ∃ x, dg m i = x := ⟨_, rfl⟩
      rw [hxe] at c2 hxl
      have HX := Lib.hid hxe; clear hxe
      obtain ⟨p, hp⟩ : ∃ p, x * 2 ^ r = p := ⟨_, rfl⟩
      have hpb : p < 18446744073709551616 := by
        have h1 : x * 2 ^ r ≤ 4294967295 * 2 ^ r := Nat.mul_le_mul_right _ (by omega)
        have h2 := p2_le (p := r) (q := 31) (by omega)
        omega
      have ew : IntKind.u64.wrap ((x : Int) * 2 ^ r) = (p : Int) := by
        have : ((x : Int) * 2 ^ r) = (p : Int) := by rw [← hp]; simp
        rw [this]; show (p : Int) % 18446744073709551616 = p; omega
      obtain ⟨h1, h2⟩ := shl_or (x := x) hr32 hc
      have h3 := shl_carry (m := m) (n := n) (i := i) (c := c) (by rw [HR.out]; exact hc)
      have hs := Lib.hid (shl_step (m := m) (n := n) (i := i) (S := valN F (q + i)) (c := c) (by rw [HQ.out]; exact hv.out))
      have hs2 := hs.out
      rw [HQ.out, HR.out, HX.out] at hs2
      rw [HR.out, HX.out] at h3
      rw [hp] at h1 h2 h3 hs2
      obtain ⟨lo, hlo⟩ : ∃ lo, (c + p) % 4294967296 = lo := ⟨_, rfl⟩
      obtain ⟨hi', hhi⟩ : ∃ hi', (c + p) / 4294967296 = hi' := ⟨_, rfl⟩
      rw [hlo] at h1 hs2
      rw [hhi] at h2 hs2 h3
      have hcb : c < 4294967296 := by
        have := p2_le (p := r) (q := 31) (by omega); omega
      have e1 : bits BinOp.or IntKind.u32 (c : Int) ((p : Int) % 4294967296) = (lo : Int) := by
        rw [show (p : Int) % 4294967296 = ((p % 4294967296 : Nat) : Int) by omega, or_nat32 hcb (Nat.mod_lt _ (by decide)), h1]
      have e2 : (p : Int) / 4294967296 = (hi' : Int) := by omega
      have hlo' : lo < 4294967296 := by omega
      have hhi' : hi' < 4294967296 := by
        have := p2_le (p := r) (q := 31) (by omega); omega
      have HS2 := Lib.hid hs2
      have H3 : Hid (hi' < 2 ^ r) := h3
      clear hp h1 h2 h3 hs hs2 hlo hhi hv
      go_wp2
      go_roundw
      case rel =>
        refine ⟨i + 1, hi', upd (upd F (q + i) lo) (q + i + 1) hi', by omega, by go_num, H3.out, ?_, ?_, ?_, ?_, upd_lt (upd_lt hB.out hlo') hhi', ?_⟩
        · show _ = _
          rw [show q + (i + 1) = q + i + 1 by omega, upd_same]
        · exact Row.set (Row.set hR.out _ _) _ _
        · exact Ext.set (Ext.set hX.out (Nat.le_refl _) _) (Nat.le_refl _) _
        · exact fun j hj => by rw [upd_ne _ (by omega), upd_ne _ (by omega)]; exact hZ.out j (by omega)
        · show _ = _
          rw [show q + (i + 1) = q + i + 1 by omega, valN_upd_ge _ (Nat.le_refl _), valN_upd]
          exact HS2.out
      case measure => simp [intOf]; omega
    · obtain rfl : i = L := by omega
      have hE : Hid (valN F (q + i + 1) = m * 2 ^ n) := by
        show _ = _
        rw [valN, hFc, hv.out, Nat.mod_eq_of_lt (lt_pB (by rw [HLe.out]; omega))]
      clear hFc hv
      go_wp2_with (go_at_call 101; refine (trim_any _ _ _ F _ hR.out.rd hB.out hR.out.cap.1 hR.out.cap.2).mono ?_; rintro e w4 ⟨rfl, rfl⟩)
      go_ret
      exact natRes_of hR.out hB.out hE.out rfl hX.out

end Go.Proofs.YtgmmcfnahfcadaaDoor
