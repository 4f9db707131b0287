/- Functions on natural numbers, part 5: differences. -/
import Derived.Test.YtgmmcfnahfcadaaDoorNatd
namespace Go.Proofs.YtgmmcfnahfcadaaDoor
open Go.RowKit

theorem dif_end {m n k L bw : Nat} {F : Nat → Nat} (hL : len m = L) (hnm : n ≤ m) (hk : k ≤ L) (hb : ∀ i, i < L → F i < 4294967296) (hv : valN F k + n = valN (dg m) k + bw * pB k) (hF : ∀ i, k ≤ i → i < L → F i = dg m i) : (bw = 0 → valN F L = m - n) ∧ (0 < bw → k < L) := by
  constructor
  · intro h0
    have key : ∀ j, k + j ≤ L → valN F (k + j) + n = valN (dg m) (k + j) := by
      intro j
      induction j with
      | zero => intro _; rw [h0] at hv; simpa using hv
      | succ j ih =>
        intro hj
        have := ih (by omega)
        rw [← Nat.add_assoc, valN, valN, hF _ (by omega) (by omega)]; omega
    have := key (L - k) (by omega)
    rw [show k + (L - k) = L by omega, valN_dg_all (by omega)] at this
    omega
  · intro h0
    rcases Nat.lt_or_ge k L with h | h
    · exact h
    · exfalso
      have : k = L := by omega
      subst this
      rw [valN_dg_all (by omega)] at hv
      have a := valN_lt hb
      have : 1 * pB k ≤ bw * pB k := Nat.mul_le_mul_right _ h0
      omega

set_option maxRecDepth 100000 in
set_option maxHeartbeats 1000000 in
theorem difference_any (A B : Option Addr) (m n ca cb : Nat) (w : World) (ha : Rd w A (len m) (dg m)) (hb' : Rd w B (len n) (dg n)) (oa : SlOk A (len m) ca) (hnm : n ≤ m) (hL : len m ≤ 1073741824) :
    Calls Tryd.prog 77 #[.slice A (len m) ca, .slice B (len n) cb] w (NatRes (m - n) w) := by
  have hl := len_mono hnm
  have HA := Lib.hid ha; clear ha
  have HB := Lib.hid hb'; clear hb'
  have OA := Lib.hid oa; clear oa
  obtain ⟨L, hLe⟩ : ∃ L, len m = L := ⟨_, rfl⟩
  obtain ⟨l, hle⟩ : ∃ l, len n = l := ⟨_, rfl⟩
  rw [hLe] at hl hL HA OA ⊢
  rw [hle] at hl HB ⊢
  have HLe := Lib.hid hLe; clear hLe
  have Hle := Lib.hid hle; clear hle
  go_enter Tryd.func77, Tryd.ntmps77
  go_wp2_with (go_at_call 100; refine (clone_any _ _ _ _ _ HA.out OA.out (by omega)).mono ?_; rintro e w1 ⟨A1, c1, rfl, hon, hx⟩)
  have hON := Lib.hid hon
  have hXX := Lib.hid hx
  clear hon hx
  go_loopw [6, 13] (fun sc si wr => ∃ (k cy : Nat) (F : Nat → Nat), k ≤ l ∧ si = I k ∧ sc = U4 cy ∧ cy ≤ 1 ∧ Hid (On wr w.heap.size A1 L c1 F) ∧ Hid (Ext w wr) ∧ Hid (∀ i, i < L → F i < 4294967296) ∧ Hid (∀ i, k ≤ i → i < L → F i = dg m i) ∧ Hid (valN F k + valN (dg n) k = valN (dg m) k + cy * pB k)) (fun _ si _ => l - (intOf si).toNat)
  case atStart => exact ⟨0, 0, dg m, Nat.zero_le _, rfl, rfl, by omega, hON, hXX, wf_dg m, (fun _ _ _ => rfl), by show _ = _; simp [valN]⟩
  case round =>
    clear hON hXX
    obtain ⟨k, cy, F, hk, rfl, rfl, hcy, hR, hX, hB, hH, hv⟩ := hrel
    by_cases hlt : k < l
    · obtain ⟨b2, o2, rfl, hb2, c2⟩ := (HB.out.ext hX.out).at_ hlt
      obtain ⟨rfl, hz, _⟩ | ⟨g, rfl, hrow⟩ := hR.out.cases
      · omega
      have hg : Hid (w.heap.size ≤ g) := hrow.lt.1
      have hR := Lib.hid hrow
      clear hrow
      have f1 := hR.out.frozen k
      have c1 := hR.out.cell (k := k) (by omega)
      have hx := hB.out k (by omega)
      have hy := dg_lt n k
      have hFk : Hid (F k = dg m k) := hH.out k (Nat.le_refl _) (by omega)
      obtain ⟨x, hxe⟩ : ∃ x, F k = x := ⟨_, rfl⟩
      obtain ⟨y, hye⟩ : ∃ y, dg n k = y := ⟨_, rfl⟩
      rw [hxe] at c1 hx
      rw [hye] at c2 hy
      have HX := Lib.hid hxe; clear hxe
      have HY := Lib.hid hye; clear hye
      obtain ⟨r, hr⟩ : ∃ r, (x + 4294967296 - y - cy) % 4294967296 = r := ⟨_, rfl⟩
      obtain ⟨d, hd⟩ : ∃ d, brw x y cy = d := ⟨_, rfl⟩
      obtain ⟨hs1, hd1⟩ := brw_step hx hy hcy
      rw [hr, hd] at hs1
      rw [hd] at hd1
      have hr1 : r < 4294967296 := by omega
      have hs := Lib.hid (sub_step (s := r) (x := x) (y := y) (c := cy) (c' := d) hv.out hs1)
      clear hs1
      have R := Lib.hid hr; clear hr
      have D := Lib.hid hd; clear hd
      go_wp2_with fail
      go_region_with ((go_at_call 109; refine (sub32_at x y cy r d _ hx hy hcy R.out D.out).mono ?_; rintro e w2 ⟨rfl, rfl⟩))
      all_goals
        go_wp2_with fail
        go_roundw
        case rel =>
          refine ⟨k + 1, d, upd F k r, by omega, by go_num, rfl, hd1, (Row.set hR.out.drew _ _).on, (Ext.set hX.out hg.out _).trans (Ext.drew _), upd_lt hB.out hr1, ?_, ?_⟩
          · exact fun i hi h2 => by rw [upd_ne _ (by omega)]; exact hH.out i (by omega) h2
          · show _ = _
            rw [pB_succ, valN_upd, valN, valN, ← hFk.out, HX.out, HY.out]
            exact hs.out
        case measure => simp [intOf]; omega
    · obtain rfl : k = l := by omega
      have hv' : Hid (valN F k + n = valN (dg m) k + cy * pB k) := by
        have := hv.out
        rw [valN_dg_all (m := n) (by rw [Hle.out]; omega)] at this
        exact this
      clear hv
      go_wp2
      go_loopw [6, 8] (fun sc si wr => ∃ (j cy : Nat) (F : Nat → Nat), j ≤ L ∧ k ≤ j ∧ si = I j ∧ sc = U4 cy ∧ cy ≤ 1 ∧ Hid (On wr w.heap.size A1 L c1 F) ∧ Hid (Ext w wr) ∧ Hid (∀ i, i < L → F i < 4294967296) ∧ Hid (∀ i, j ≤ i → i < L → F i = dg m i) ∧ Hid (valN F j + n = valN (dg m) j + cy * pB j)) (fun _ si _ => L - (intOf si).toNat)
      case atStart => exact ⟨k, cy, F, hl, Nat.le_refl _, rfl, rfl, hcy, hR, hX, hB, hH, hv'⟩
      case round =>
        clear hv' hR hX hB hH hcy
        obtain ⟨j, cy, F, hj, hkj, rfl, rfl, hcy, hR, hX, hB, hH, hv⟩ := hrel
        have hend := dif_end (m := m) (n := n) (L := L) HLe.out hnm hj hB.out hv.out hH.out
        rcases Nat.eq_zero_or_pos cy with h0 | h0
        · have hE := Lib.hid (hend.1 h0)
          subst h0
          clear hend hv
          go_wp2_with (go_at_call 101; refine (trim_any _ _ _ F _ hR.out.rd hB.out hR.out.ok.1 hR.out.ok.2.1).mono ?_; rintro e w4 ⟨rfl, rfl⟩)
          go_ret
          obtain ⟨rfl, hz, rfl⟩ | ⟨g, rfl, hrow⟩ := hR.out.cases
          · subst hz
            have h1 := hE.out
            rw [← h1]
            exact ⟨none, 0, rfl, by show On _ _ none (len 0) 0 _; rw [len_zero]; exact On.nil _ _ _, hX.out⟩
          · exact natRes_of hrow hB.out hE.out rfl hX.out
        · have hkl := hend.2 h0
          clear hend
          obtain ⟨rfl, hz, _⟩ | ⟨g, rfl, hrow⟩ := hR.out.cases
          · omega
          have hg : Hid (w.heap.size ≤ g) := hrow.lt.1
          have hR := Lib.hid hrow
          clear hrow
          have f1 := hR.out.frozen j
          have c1 := hR.out.cell (k := j) (by omega)
          have hxx := hB.out j (by omega)
          obtain ⟨x, hxe⟩ : ∃ x, F j = x := ⟨_, rfl⟩
          rw [hxe] at c1 hxx
          obtain ⟨r, hr⟩ : ∃ r, (x + 4294967296 - 0 - cy) % 4294967296 = r := ⟨_, rfl⟩
          obtain ⟨d, hd⟩ : ∃ d, brw x 0 cy = d := ⟨_, rfl⟩
          obtain ⟨hs1, hd1⟩ := brw_step (y := 0) hxx (by omega) hcy
          rw [hr, hd] at hs1
          rw [hd] at hd1
          have hr1 : r < 4294967296 := by omega
          have hs := Lib.hid (sub_step (s := r) (x := x) (y := 0) (c := cy) (c' := d) hv.out hs1)
          clear hs1
          have hxd : Hid (x = dg m j) := by rw [← hxe]; exact hH.out j (Nat.le_refl _) (by omega)
          clear hxe
          have R := Lib.hid hr; clear hr
          have D := Lib.hid hd; clear hd
          have h0' : (0 : Int) < (cy : Int) := by omega
          go_wp2_with (go_at_call 109; refine (sub32_at x 0 cy r d _ hxx (by omega) hcy R.out D.out).mono ?_; rintro e w4 ⟨rfl, rfl⟩)
          go_roundw
          case rel =>
            refine ⟨j + 1, d, upd F j r, by omega, by omega, by go_num, rfl, hd1, (Row.set hR.out _ _).on, Ext.set hX.out hg.out _, upd_lt hB.out hr1, ?_, ?_⟩
            · exact fun i hi h2 => by rw [upd_ne _ (by omega)]; exact hH.out i (by omega) h2
            · show _ = _
              have := hs.out
              rw [pB_succ, valN_upd, valN, ← hxd.out]
              omega
          case measure => simp [intOf]; omega

end Go.Proofs.YtgmmcfnahfcadaaDoor
