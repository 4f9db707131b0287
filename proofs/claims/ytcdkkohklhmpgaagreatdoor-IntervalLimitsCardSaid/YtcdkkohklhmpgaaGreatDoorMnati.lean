/- Functions on natural numbers, part 9: trailing zeros; the tables of the library. -/
import Derived.Test.YtcdkkohklhmpgaaGreatDoorMnatg
import Derived.Shelf.Spec.TrailingZeros
import Derived.Deep.DeepCutAuto
namespace Go.Proofs.YtcdkkohklhmpgaaGreatDoor

/-! ### Nati -/
section
open Go.RowKit

/-- The library's table of trailing zeros lies as its text lays it. -/
def Tabs (w : World) : Prop := TabAt 0 Lib.deBruijn32tab w
theorem Tabs.ext {w w' : World} (h : Tabs w) (e : Ext w w') : Tabs w' := fun j hj => by
  have h1 := h j hj
  exact (e.old.1 _ _ (World.block_lt_of_cell? w _ h1)).trans h1

set_option maxRecDepth 100000 in
set_option maxHeartbeats 1000000 in
theorem tz32_core (x k idx : Nat) (w : World) (hx0 : ((x : Int) == 0) = false)
    (key : bits BinOp.and IntKind.u32 (x : Int) (-(x : Int) % 4294967296) * 125613361 % 4294967296 / 134217728 = (idx : Int))
    (hi : idx < 32) (hk : k < 32) (hcell : w.cell? ⟨0, idx, none⟩ = some (.int .u8 k)) :
    Calls Tryz.prog 236 #[U4 x] w fun e w' => e = .returned (I k) ∧ w = w' := by
  go_enter Tryz.func236, Tryz.ntmps236
  go_wp2_with (simp only [key])
  go_ret
  exact ⟨rfl, rfl⟩
theorem tz32_any (x : Nat) (hx : x < 4294967296) (hx0 : x ≠ 0) (w : World) (hT : Tabs w) : Calls Tryz.prog 236 #[U4 x] w fun e w' => e = .returned (I (Lib.ctz 32 x)) ∧ w = w' := by
  obtain ⟨hlow, hk⟩ := Lib.lowest_bit 32 x hx0 hx
  obtain ⟨hi, htab⟩ := Lib.deBruijn32_at _ hk
  have hcell := hT _ hi
  rw [htab] at hcell
  exact tz32_core x _ _ w (by simp; omega) (tz32_key x _ hx hx0 hlow) hi hk hcell

def IsTz (m T : Nat) : Prop := (∀ i, i < T → m / 2 ^ i % 2 = 0) ∧ m / 2 ^ T % 2 = 1
theorem isTz_hv {m T k : Nat} (h : IsTz m T) : hv m k = min T k := by
  refine hv_of_bits (Nat.min_le_right _ _) (fun i hi => h.1 i (by omega)) (fun hk => ?_)
  rw [show min T k = T by omega]; exact h.2
theorem ctz_bits {x : Nat} (hx : x < 4294967296) (h0 : x ≠ 0) : (∀ i, i < Lib.ctz 32 x → x / 2 ^ i % 2 = 0) ∧ x / 2 ^ Lib.ctz 32 x % 2 = 1 ∧ Lib.ctz 32 x < 32 := by
  obtain ⟨m, hm, hk⟩ := Lib.ctzFrom_spec 32 x (by omega) hx
  have e : Lib.ctz 32 x = Lib.ctzFrom 32 x := by simp [Lib.ctz, h0]
  rw [e]
  generalize Lib.ctzFrom 32 x = k at *
  refine ⟨fun i hi => ?_, ?_, hk⟩
  · obtain ⟨j, rfl⟩ : ∃ j, k = i + (j + 1) := ⟨k - i - 1, by omega⟩
    rw [hm, Nat.pow_add, Nat.mul_assoc, Nat.mul_div_cancel_left _ (p2_pos i), Nat.pow_succ, Nat.mul_comm (2 ^ j), Nat.mul_assoc]
    omega
  · rw [hm, Nat.mul_div_cancel_left _ (p2_pos k)]; omega
theorem isTz_of {m i x : Nat} (h0 : ∀ j, j < i → dg m j = 0) (hx : dg m i = x) (hne : x ≠ 0) : IsTz m (i * 32 + Lib.ctz 32 x) := by
  obtain ⟨h1, h2, h3⟩ := ctz_bits (x := x) (by rw [← hx]; exact dg_lt _ _) hne
  generalize Lib.ctz 32 x = k at *
  constructor
  · intro j hj
    rw [← bit_dg]
    rcases Nat.lt_or_ge (j / 32) i with h | h
    · rw [h0 _ h]; simp
    · have : j / 32 = i := by omega
      rw [this, hx]; exact h1 _ (by omega)
  · rw [← bit_dg, show (i * 32 + k) / 32 = i by omega, hx, show (i * 32 + k) % 32 = k by omega]; exact h2

def TzRes (m : Nat) (w : World) (e : Ending) (w' : World) : Prop := ∃ T : Nat, e = .returned (I T) ∧ IsTz m T ∧ T < len m * 32 ∧ w = w'
set_option maxRecDepth 100000 in
set_option maxHeartbeats 1000000 in
theorem trailingZeros_any (A : Option Addr) (m ca : Nat) (w : World) (hT : Tabs w) (ha : Rd w A (len m) (dg m)) (hm : m ≠ 0) (hL : len m ≤ 1073741824) :
    Calls Tryz.prog 206 #[.slice A (len m) ca] w (TzRes m w) := by
  have HA := Lib.hid ha; clear ha
  have HT := Lib.hid hT; clear hT
  have htop := Lib.hid (dg_top hm)
  have hpos : 0 < len m := by have := len_pos hm; omega
  clear hm
  obtain ⟨L, hLe⟩ : ∃ L, len m = L := ⟨_, rfl⟩
  rw [hLe] at hL HA hpos ⊢
  have HLe := Lib.hid hLe; clear hLe
  go_enter Tryz.func206, Tryz.ntmps206
  go_wp2
  go_loop [3] (fun s => ∃ i : Nat, i < L ∧ s = I i ∧ Hid (∀ j, j < i → dg m j = 0)) (fun s => L - (intOf s).toNat)
  case atStart => exact ⟨0, hpos, rfl, fun j hj => by omega⟩
  case round =>
    obtain ⟨i, hi, rfl, hz⟩ := hrel
    obtain ⟨b2, o2, rfl, hb2, c2⟩ := HA.out.at_ hi
    by_cases h0 : dg m i = 0
    · have hi1 : i + 1 < L := by
        rcases Nat.lt_or_ge (i + 1) L with h | h
        · exact h
        · exfalso; have := htop.out; rw [HLe.out, show L - 1 = i by omega] at this; exact this h0
      have hz' : Hid (∀ j, j < i + 1 → dg m j = 0) := fun j hj => by
        by_cases e : j = i
        · subst e; exact h0
        · exact hz.out j (by omega)
      rw [h0] at c2
      clear h0 hz
      go_wp2
      go_round
      case rel => exact ⟨i + 1, hi1, by go_num, hz'⟩
      case measure => simp [intOf]; omega
    · have hxl := dg_lt m i
      obtain ⟨x, hxe⟩ : ∃ x, dg m i = x := ⟨_, rfl⟩
      have hzz := Lib.hid (isTz_of hz.out hxe (by rw [← hxe]; exact h0))
      have h1 : ((x : Int) == 0) = false := by simp; omega
      have h2 : x ≠ 0 := by omega
      have hcz := (ctz_bits (x := x) (by omega) h2).2.2
      rw [hxe] at c2 hxl
      obtain ⟨k, hk⟩ : ∃ k, Lib.ctz 32 x = k := ⟨_, rfl⟩
      rw [hk] at hzz hcz
      have HK := Lib.hid hk
      have H2 := Lib.hid h2
      clear hxe h0 hz hk h2
      go_wp2_with (go_at_call 236; refine (tz32_any x hxl H2.out _ HT.out).mono ?_; rintro e w' ⟨rfl, rfl⟩; rw [HK.out])
      go_ret
      exact ⟨i * 32 + k, by rfl, hzz.out, by have := HLe.out; omega, rfl⟩
end

/-! ### Natj -/
section
open Go.RowKit

theorem tk_step {c t x y lo lf hi : Nat} (hc : c ≤ 4294967296) (ht : t ≤ 4294967295) (hx : x < 4294967296) (hy : y < 4294967296) (hlo : (c + t * x) % 4294967296 = lo) (hhi : (c + t * x) / 4294967296 = hi)
    (hlf : ((y : Int) - lo) % 18446744073709551616 = (lf : Int)) :
    lf % 4294967296 + (c + t * x) = y + (hi + lf / 9223372036854775808) * 4294967296 ∧ hi + lf / 9223372036854775808 ≤ 4294967296 ∧ c + t * x < 18446744073709551616 ∧ t * x < 18446744073709551616 := by
  have h1 : t * x ≤ 4294967295 * 4294967295 := Nat.mul_le_mul ht (by omega)
  generalize t * x = p at *
  omega
theorem tk_est {F f : Nat → Nat} {L q0 fst : Nat} (hF : ∀ i, i < L + 2 → F i < 4294967296) (hM : F (L + 1) * 4294967296 + F L = fst) (ht : 0 < f L) (hQ : q0 * valN f (L + 1) ≤ valN F (L + 2)) : q0 ≤ fst / f L := by
  refine quo_le L (M := valN F (L + 2)) (N := valN f (L + 1)) ?_ ?_ ht q0 hQ
  · have hb := valN_lt (f := F) (k := L) (fun i hi => hF i (by omega))
    rw [valN, valN, ← hM, pB_succ, Nat.add_mul, Nat.add_mul, ← Nat.mul_assoc]
    omega
  · rw [valN]; omega
theorem tk_neg {V M N t P : Nat} {top : Int} (hV : V < P) (h : (V : Int) + top * P = (M : Int) - (t : Int) * N) (ht : top < 0) : M < t * N := by
  have h1 : top * P ≤ -1 * P := Int.mul_le_mul_of_nonneg_right (by omega) (by omega)
  have h2 : ((t * N : Nat) : Int) = (t : Int) * N := by simp
  omega
theorem tk_pos {V M N t P : Nat} {top : Int} (hN : N < P) (hNP : 0 < N) (h : (V : Int) + top * P = (M : Int) - (t : Int) * N) (ht : 0 ≤ top) (hQ : M / N ≤ t) : t = M / N ∧ top = 0 ∧ V = M % N := by
  have h0 : 0 ≤ top * P := Int.mul_nonneg ht (by omega)
  have h2 : ((t * N : Nat) : Int) = (t : Int) * N := by simp
  have h3 : t * N ≤ M := by omega
  have h4 : t ≤ M / N := (Nat.le_div_iff_mul_le hNP).2 h3
  have h5 : t = M / N := by omega
  have h6 := Nat.div_add_mod M N
  have h7 := Nat.mod_lt M hNP
  rw [← h5, Nat.mul_comm] at h6
  have h8 : top = 0 := by
    rcases Int.lt_or_le 0 top with h | h
    · have : 1 * (P : Int) ≤ top * P := Int.mul_le_mul_of_nonneg_right (by omega) (by omega)
      omega
    · omega
  subst h8
  exact ⟨h5, rfl, by omega⟩

def TakePost (w : World) (base g N C o L : Nat) (F f : Nat → Nat) (e : Ending) (w' : World) : Prop :=
  ∃ F' : Nat → Nat, e = .returned (U4 (valN (fun i => F (o + i)) (L + 1) / valN f L)) ∧ Row w' base g N C F' ∧ w.grownBy w' (some g) ∧ (∀ i, i < N → F' i < 4294967296) ∧ (∀ i, i < o ∨ o + (L + 1) ≤ i → F' i = F i) ∧ F' (o + L) = 0 ∧
    valN (fun i => F' (o + i)) L = valN (fun i => F (o + i)) (L + 1) % valN f L

end

end Go.Proofs.YtcdkkohklhmpgaaGreatDoor
