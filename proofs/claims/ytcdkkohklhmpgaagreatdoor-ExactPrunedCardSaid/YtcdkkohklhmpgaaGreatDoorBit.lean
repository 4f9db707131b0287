/- Numbers of bits. -/
import Derived.Lib.ItoaNum
import Derived.Test.YtcdkkohklhmpgaaGreatDoorRefh
import Derived.Test.YtcdkkohklhmpgaaGreatDoorMdyf
import Derived.Test.YtcdkkohklhmpgaaGreatDoorShelf
namespace Go.Proofs.YtcdkkohklhmpgaaGreatDoor
open Go.RowKit

def bitsN (m : Nat) : Nat := if h : m = 0 then 0 else bitsN (m / 2) + 1
termination_by m
decreasing_by exact Nat.div_lt_self (by omega) (by decide)
theorem bitsN_zero : bitsN 0 = 0 := by rw [bitsN, dif_pos rfl]
theorem bitsN_pos {m : Nat} (h : m ≠ 0) : bitsN m = bitsN (m / 2) + 1 := by rw [bitsN, dif_neg h]
theorem bits_of : ∀ (n m : Nat), m < 2 ^ n → (0 < n → 2 ^ (n - 1) ≤ m) → bitsN m = n
  | 0, m, h, _ => by
    have : m = 0 := by simp at h; exact h
    subst this; exact bitsN_zero
  | n + 1, m, h, h2 => by
    have h3 := h2 (by omega)
    rw [show n + 1 - 1 = n by omega] at h3
    have hp : 0 < 2 ^ n := Nat.pow_pos (by decide)
    rw [Nat.pow_succ] at h
    rw [bitsN_pos (by omega), bits_of n (m / 2) (by omega) (fun hn => ?_)]
    rw [show n = n - 1 + 1 by omega, Nat.pow_succ] at h3
    omega
theorem bits_shift : ∀ (j m : Nat), m / 2 ^ j ≠ 0 → bitsN m = bitsN (m / 2 ^ j) + j
  | 0, m, _ => by simp
  | j + 1, m, h => by
    have e : m / 2 ^ (j + 1) = m / 2 ^ j / 2 := by rw [Nat.pow_succ, Nat.div_div_eq_div_mul]
    have h0 : m / 2 ^ j ≠ 0 := fun e0 => h (by rw [e, e0, Nat.zero_div])
    rw [bits_shift j m h0, bitsN_pos h0, e]; omega
theorem bitLen_eq {x : Nat} (h : x < 4294967296) : Lib.bitLen x = bitsN x := by
  by_cases h0 : x = 0
  · subst h0; rw [bitsN_zero]; rfl
  · obtain ⟨h1, h2, h3⟩ := Lib.bitLenAux_bounds 64 x (Nat.lt_trans h (by decide)) h0
    exact (bits_of _ x h3 (fun _ => h2)).symm
theorem bitsN_le {m n : Nat} (h : m < 2 ^ n) : bitsN m ≤ n := by
  rcases Nat.lt_or_ge n (bitsN m) with h1 | h1
  · exfalso
    have h2 : m / 2 ^ n = 0 := Nat.div_eq_of_lt h
    have : ∀ j m, m / 2 ^ j = 0 → bitsN m ≤ j := by
      intro j
      induction j with
      | zero => intro m h; simp at h; subst h; rw [bitsN_zero]; exact Nat.le_refl _
      | succ j ih =>
        intro m h
        by_cases h0 : m = 0
        · subst h0; rw [bitsN_zero]; omega
        · rw [bitsN_pos h0]
          have := ih (m / 2) (by rw [Nat.div_div_eq_div_mul, Nat.mul_comm, ← Nat.pow_succ]; exact h)
          omega
    have := this n m h2
    omega
  · exact h1

theorem two0 {q : Nat} (h : q < 2) (h2 : q % 2 = 0) : q = 0 := by omega
theorem two1 {q : Nat} (h : q < 2) (h2 : q % 2 = 1) : q = 1 := by omega

set_option maxRecDepth 100000 in
set_option maxHeartbeats 1000000 in
theorem bitLength_any (A : Option Addr) (m c : Nat) (w : World) (ha : Rd w A (len m) (dg m)) (hL : len m ≤ 1073741824) :
    Calls Tryz.prog 241 #[.slice A (len m) c] w fun e w' => e = .returned (I (bitsN m)) ∧ w = w' := by
  by_cases h0 : m = 0
  · subst h0
    rw [len_zero, bitsN_zero]
    clear ha hL
    go_enter Tryz.func241, Tryz.ntmps241
    go_wp2
    go_ret
    exact ⟨rfl, rfl⟩
  · have ht := dg_top h0
    have hlz : len m ≠ 0 := fun e => h0 (len_eq_zero.1 e)
    obtain ⟨K, hK⟩ : ∃ K, len m = K + 1 := ⟨len m - 1, by omega⟩
    rw [hK] at ha hL ht ⊢
    rw [show K + 1 - 1 = K by omega] at ht
    obtain ⟨b2, o2, rfl, hb2, c2⟩ := ha.at_ (k := K) (by omega)
    have hxl := dg_lt m K
    have hd : dg m K = m / pB K := by
      unfold dg
      rw [Nat.mod_eq_of_lt]
      have := lt_pB_len m
      rw [hK, pB_succ] at this
      rw [Nat.div_lt_iff_lt_mul (by unfold pB; exact Nat.pow_pos (by decide))]
      first | exact this | (rw [Nat.mul_comm]; exact this)
    have hb := bits_shift (32 * K) m (by rw [← pB_two, ← hd]; exact ht)
    rw [← pB_two, ← hd] at hb
    obtain ⟨x, hx⟩ : ∃ x, dg m K = x := ⟨_, rfl⟩
    rw [hx] at c2 hxl hb ht
    have hbl := bitLen_eq hxl
    have hb32 : bitsN x ≤ 32 := bitsN_le (by exact hxl)
    obtain ⟨t, hte⟩ : ∃ t, bitsN x = t := ⟨_, rfl⟩
    rw [hte] at hb hbl hb32
    have HR := Lib.hid hb
    rw [HR.out]
    have h1 : ((K : Int) + 1 == 0) = false := by simp; omega
    have HBL := Lib.hid hbl
    have e9 : (K : Int) * 32 + (t : Int) = ((t + 32 * K : Nat) : Int) := by omega
    clear hd hb hx hte hbl ha
    go_enter Tryz.func241, Tryz.ntmps241
    go_wp2_with (go_at_call 257; refine (Tryz.bits_Len32 (x : Int) _ (by omega) (by omega)).mono ?_; rw [Int.toNat_natCast, HBL.out]; rintro e w4 ⟨rfl, rfl⟩)
    go_ret
    exact ⟨rfl, rfl⟩

set_option maxRecDepth 100000 in
set_option maxHeartbeats 1000000 in
theorem bits_any {w : World} {neg : Bool} {A A' : Option Addr} {n c c' : Nat} {den : Int} {d : DV} (h : Dy w neg A n c den d A' c') : Calls Tryz.prog 222 #[dv neg A n c den] w fun e w' => e = .returned (I (bitsN d.m)) ∧ Ext w w' := by
  have H := Lib.hid h; clear h
  have hl1 := H.out.lim
  have hfd : ∀ w : World, (Instr.field 24 (dv d.neg A' (len d.m) c' d.den) 1).run Tryz.prog w = .ok (.slice A' (len d.m) c') w := fun _ => by kernel_rfl
  go_enter Tryz.func222, Tryz.ntmps222
  go_wp2_with (first
    | (go_at_call 106; (refine (H.out.num _ (Ext.alloc _ _)).mono ?_; rintro e w1 ⟨rfl, hx⟩; have HX := Lib.hid ((Ext.alloc _ _).trans hx); clear hx))
    | (go_at_call 241; (refine (bitLength_any A' d.m c' _ (H.out.rd.ext HX.out) (by omega)).mono ?_; rintro e w4 ⟨rfl, rfl⟩)))
  go_ret
  exact ⟨rfl, HX.out⟩

set_option maxRecDepth 100000 in
set_option maxHeartbeats 1000000 in
theorem rbits_any {w : World} {neg : Bool} {A A' : Option Addr} {n c c' : Nat} {den : Int} {d : DV} (h : Dy w neg A n c den d A' c') : Calls Tryz.prog 228 #[dv neg A n c den] w fun e w' => e = .returned (I (bitsN d.m)) ∧ Ext w w' := by
  have H := Lib.hid h; clear h
  have hl1 := H.out.lim
  have HA := Lib.hid H.out.rd
  have HN : Hid (∀ w', Ext w w' → Calls Tryz.prog 119 #[dv neg A n c den] w' (NumRes (dv d.neg A' (len d.m) c' d.den) w')) := H.out.norm
  obtain ⟨m, hm⟩ : ∃ m, d.m = m := ⟨_, rfl⟩
  rw [hm] at HA HN hl1 ⊢
  have HB1 : Hid (m < 2 ^ (32 * len m)) := by rw [← pB_two]; exact lt_pB_len m
  generalize len m = L at *
  generalize d.neg = ng at *
  generalize d.den = dn at *
  clear H hm
  obtain ⟨v, hv0⟩ : ∃ v, bitsN m = v := ⟨_, rfl⟩
  rw [hv0]
  have HV := Lib.hid hv0; clear hv0
  go_enter Tryz.func228, Tryz.ntmps228
  go_wp2_with (go_at_call 119; refine (HN.out _ (Ext.alloc _ _)).mono ?_; rintro e w1 ⟨rfl, hx⟩; have hb := (Bx.new w (.bool neg) (.slice A n c) (I den) 24).ext hx; have HBX := Lib.hid hb; obtain ⟨⟨k0, k1, k2⟩, hz⟩ := hb; have HX := Lib.hid ((Ext.alloc _ _).trans hx); clear hx)
  go_loopw [3] (fun s3 wr => Hid (Ext w wr) ∧ Hid (Bx wr w.heap.size (.bool ng) (.slice A' L c') (I dn)) ∧ ∃ j : Nat, j ≤ 32 * L ∧ s3 = I j ∧ Hid (m < 2 ^ j)) (fun s3 _ => (intOf s3).toNat)
  case atStart => exact ⟨ext_set3 HX.out (Nat.le_refl _) _ _ _, HBX.out.set3 _ _ _, 32 * L, Nat.le_refl _, by go_num, HB1.out⟩
  case round =>
    clear HBX HX HB1
    obtain ⟨hX, hB, j, hj, rfl, hlt⟩ := hrel
    obtain ⟨⟨q0, q1, q2⟩, qz⟩ := hB.out
    cases j with
    | zero =>
      have hm0 : m = 0 := by have := hlt.out; simp at this; exact this
      have HR : Hid (bitsN m = 0) := by show _ = _; rw [hm0, bitsN_zero]
      go_wp2
      go_ret
      exact ⟨by rw [← HV.out, HR.out]; rfl, hX.out⟩
    | succ i =>
      obtain ⟨a, hae⟩ : ∃ a, i / 32 = a := ⟨_, rfl⟩
      obtain ⟨s, hse⟩ : ∃ s, i % 32 = s := ⟨_, rfl⟩
      have haL : a < L := by omega
      have ei : ((i + 1 : Nat) : Int) - 1 = (i : Int) := by omega
      have ea : (i : Int) / 32 = (a : Int) := by omega
      have es : (i : Int) % 32 = (s : Int) := by omega
      have hs32 : s < 32 := by omega
      have hbit := bit_dg m i
      rw [hae, hse] at hbit
      obtain ⟨b2, o2', rfl, hb2, c2⟩ := (HA.out.ext hX.out).at_ haL
      have hxl := dg_lt m a
      obtain ⟨x, hxe⟩ : ∃ x, dg m a = x := ⟨_, rfl⟩
      rw [hxe] at c2 hxl hbit
      clear hxe
      obtain ⟨v, hv⟩ : ∃ v, x / 2 ^ s = v := ⟨_, rfl⟩
      have ev : (x : Int) / 2 ^ s = (v : Int) := by rw [← hv]; simp
      have hvb : v < 4294967296 := by rw [← hv]; exact Nat.lt_of_le_of_lt (Nat.div_le_self _ _) hxl
      have eb := and_one32 hvb
      rw [hv] at hbit
      rw [hbit] at eb
      have i1 : (0 : Int) ≤ (a : Int) := by omega
      have i0 : (0 : Int) < ((i + 1 : Nat) : Int) := by omega
      clear hv hbit hae hse
      have hsp := Nat.div_add_mod m (2 ^ i)
      have hml := Nat.mod_lt m (Nat.pow_pos (n := i) (show 0 < 2 by decide))
      have hq2 : m / 2 ^ i < 2 := by
        rw [Nat.div_lt_iff_lt_mul (Nat.pow_pos (by decide))]
        have := hlt.out
        rw [Nat.pow_succ] at this
        omega
      by_cases hd : m / 2 ^ i % 2 = 0
      · rw [hd] at eb
        have hq : m / 2 ^ i = 0 := two0 hq2 hd
        have hlt' : Hid (m < 2 ^ i) := by show _ < _; rw [hq] at hsp; omega
        clear hd hq hsp hml hq2
        go_wp2
        go_roundw
        case rel => exact ⟨hX, hB, i, by omega, by go_num, hlt'⟩
        case measure => simp [intOf]; try omega
      · have hd1 : m / 2 ^ i % 2 = 1 := by omega
        rw [hd1] at eb
        have hq : m / 2 ^ i = 1 := two1 hq2 hd1
        have HR : Hid (bitsN m = i + 1) := by
          show _ = _
          refine bits_of _ _ hlt.out (fun _ => ?_)
          rw [show i + 1 - 1 = i by omega]
          rw [hq] at hsp; omega
        clear hd hd1 hq hsp hml hq2
        go_wp2
        go_ret
        exact ⟨by rw [← HV.out, HR.out]; rfl, hX.out⟩

end Go.Proofs.YtcdkkohklhmpgaaGreatDoor
