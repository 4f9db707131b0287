/- The reference's functions on absolute values, part 4: left. -/
import Derived.Test.YtgmmcfnahfcadaaDoorRefc
import Derived.Test.YtgmmcfnahfcadaaDoorNatf
namespace Go.Proofs.YtgmmcfnahfcadaaDoor
open Go.RowKit

set_option maxRecDepth 100000 in
set_option maxHeartbeats 1000000 in
theorem rleft_any (A : Option Addr) (m n ca : Nat) (w : World) (ha : Rd w A (len m) (dg m)) (hL : len m ≤ 1073741824) (hn : n ≤ 1073741824) :
    Calls Tryd.prog 81 #[.slice A (len m) ca, I n] w (NatRes (m * 2 ^ n) w) := by
  have HA := Lib.hid ha; clear ha
  obtain ⟨L, hLe⟩ : ∃ L, len m = L := ⟨_, rfl⟩
  rw [hLe] at hL HA ⊢
  have HLe := Lib.hid hLe; clear hLe
  obtain ⟨q, hq'⟩ : ∃ q, n / 32 = q := ⟨_, rfl⟩
  obtain ⟨r, hr'⟩ : ∃ r, n % 32 = r := ⟨_, rfl⟩
  have hr32 : r < 32 := by omega
  have hqn : q ≤ n := by omega
  have hq : (n : Int) / 32 = (q : Int) := by omega
  have hr : (n : Int) % 32 = (r : Int) := by omega
  have HQ := Lib.hid hq'; clear hq'
  have HR := Lib.hid hr'; clear hr'
  obtain ⟨w1, hrun, hrow, hx⟩ := run_make_row w q (by omega)
  have hR0 := Lib.hid hrow.on
  have hX0 := Lib.hid hx
  clear hrow hx
  go_enter Tryd.func81, Tryd.ntmps81
  go_wp2
  clear hrun
  go_loopw [5, 6, 14] (fun so sc si wr => ∃ (i c : Nat) (Ao : Option Addr) (co : Nat) (F : Nat → Nat), i ≤ L ∧ si = I i ∧ sc = U8 c ∧ so = .slice Ao (q + i : Nat) co ∧ c < 2 ^ r ∧ Hid (On wr w.heap.size Ao (q + i) co F) ∧ Hid (Ext w wr) ∧ Hid (∀ j, j < q + i → F j < 4294967296) ∧ Hid (valN F (q + i) + c * pB (q + i) = m % pB i * 2 ^ n)) (fun _ _ si _ => L - (intOf si).toNat)
  case atStart => exact ⟨0, 0, _, _, _, Nat.zero_le _, rfl, rfl, rfl, p2_pos _, hR0, hX0, (fun _ _ => by show (0:Nat) < _; decide), by show _ = _; rw [valN_zeros (f := fun _ => 0) (t := 0) (Nat.zero_le _) (fun _ _ _ => rfl)]; simp [valN, pB_zero, Nat.mod_one]⟩
  case round =>
    clear hR0 hX0
    obtain ⟨i, c, Ao, co, F, hi, rfl, rfl, rfl, hc, hO, hX, hB, hv⟩ := hrel
    by_cases hlt : i < L
    · obtain ⟨b2, o2, rfl, hb2, c2⟩ := (HA.out.ext hX.out).at_ hlt
      have hxl := dg_lt m i
      obtain ⟨x, hxe⟩ : ∃ x, dg m i = x := ⟨_, rfl⟩
      rw [hxe] at c2 hxl
      have HX := Lib.hid hxe; clear hxe
      obtain ⟨p, hp⟩ : ∃ p, x * 2 ^ r = p := ⟨_, rfl⟩
      have hpb : p < 18446744073709551616 := by
        have h1 : x * 2 ^ r ≤ 4294967295 * 2 ^ r := Nat.mul_le_mul_right _ (by omega)
        have h2 := p2_le (p := r) (q := 31) (by omega)
        omega
      have ew : IntKind.u64.wrap ((x : Int) * 2 ^ r) = (p : Int) := by
        have : ((x : Int) * 2 ^ r) = (p : Int) := by rw [← hp]; simp
        rw [this]; show (p : Int) % 18446744073709551616 = p; omega
      have h3 := shl_carry (m := m) (n := n) (i := i) (c := c) (by rw [HR.out]; exact hc)
      have hs := Lib.hid (shl_step (m := m) (n := n) (i := i) (S := valN F (q + i)) (c := c) (by rw [HQ.out]; exact hv.out))
      have hs2 := hs.out
      rw [HQ.out, HR.out, HX.out] at hs2
      rw [HR.out, HX.out] at h3
      have ho := or_add (b := x) hc
      rw [hp] at ho h3 hs2
      have hcb : c < 4294967296 := by
        have := p2_le (p := r) (q := 31) (by omega); omega
      have htb : c + p < 18446744073709551616 := by
        have h1 : x * 2 ^ r ≤ 4294967295 * 2 ^ r := Nat.mul_le_mul_right _ (by omega)
        have h2 := p2_le (p := r) (q := 31) (by omega)
        omega
      obtain ⟨t, ht⟩ : ∃ t, c + p = t := ⟨_, rfl⟩
      have e1 : bits BinOp.or IntKind.u64 (c : Int) (p : Int) = (t : Int) := by
        rw [or_nat64 (by omega) hpb, ho, ht]
      rw [ht] at h3 hs2 htb
      obtain ⟨lo, hlo⟩ : ∃ lo, t % 4294967296 = lo := ⟨_, rfl⟩
      obtain ⟨hi', hhi⟩ : ∃ hi', t / 4294967296 = hi' := ⟨_, rfl⟩
      have e3 : (t : Int) % 4294967296 = (lo : Int) := by omega
      have e4 : (t : Int) / 4294967296 = (hi' : Int) := by omega
      have hlob : lo < 4294967296 := by omega
      rw [hlo, hhi] at hs2
      rw [hhi] at h3
      have HS2 := Lib.hid hs2
      have H3 : Hid (hi' < 2 ^ r) := h3
      clear hp h3 hs hs2 hlo hhi hv ho ht
      go_wp2_with (at_builtin; refine app1 rfl _ _ rfl w.heap.size Ao (q + i) co F (by rfl) (hO.out.ext (Ext.alloc _ _)) _ 1 lo (by rfl) (by go_simp) (by omega) (by have := hX.out.size; simp; omega) ?_; intro g cap w2 hrow hg hat hlt2; have HRW := Lib.hid hrow; have HX2 : Hid (Ext w w2) := ext_app (hX.out.trans (Ext.alloc _ _)) (hO.out.ext (Ext.alloc _ _)) hg; clear hrow hg hat hlt2)
      go_roundw
      case rel =>
        refine ⟨i + 1, hi', some ⟨g, 0, none⟩, cap, upd F (q + i) lo, by omega, by go_num, rfl, rfl, H3.out, HRW.out.on, HX2, ?_, ?_⟩
        · exact fun j hj => by
            by_cases e : j = q + i
            · subst e; rw [upd_same]; exact hlob
            · rw [upd_ne _ e]; exact hB.out j (by omega)
        · show _ = _
          rw [show q + (i + 1) = q + i + 1 by omega, valN_upd]
          exact HS2.out
      case measure => simp [intOf]; omega
    · obtain rfl : i = L := by omega
      have hcb : c < 4294967296 := by
        have := p2_le (p := r) (q := 31) (by omega); omega
      have hE : Hid (valN (upd F (q + i) c) (q + i + 1) = m * 2 ^ n) := by
        show _ = _
        rw [valN_upd, hv.out, Nat.mod_eq_of_lt (lt_pB (by rw [HLe.out]; omega))]
      have hBB : Hid (∀ j, j < q + i + 1 → upd F (q + i) c j < 4294967296) := fun j hj => by
        by_cases e : j = q + i
        · subst e; rw [upd_same]; exact hcb
        · rw [upd_ne _ e]; exact hB.out j (by omega)
      have e3 : (c : Int) % 4294967296 = (c : Int) := by omega
      clear hv hB
      go_wp2_with (first
        | (at_builtin; refine app1 rfl _ _ rfl w.heap.size Ao (q + i) co F (by rfl) (hO.out.ext (Ext.alloc _ _)) _ 1 c (by rfl) (by go_simp) (by omega) (by have := hX.out.size; simp; omega) ?_; intro g cap w2 hrow hg hat hlt2; have HRW := Lib.hid hrow; have HX2 : Hid (Ext w w2) := ext_app (hX.out.trans (Ext.alloc _ _)) (hO.out.ext (Ext.alloc _ _)) hg; clear hrow hg hat hlt2)
        | (go_at_call 116; refine (rtrim_any _ _ _ _ _ HRW.out.rd hBB.out HRW.out.cap.1 HRW.out.cap.2).mono ?_; rintro e w4 ⟨rfl, rfl⟩))
      go_ret
      exact natRes_of HRW.out hBB.out hE.out rfl HX2.out

end Go.Proofs.YtgmmcfnahfcadaaDoor
