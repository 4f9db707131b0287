/- Numbers of bits. -/
import Derived.Lib.ItoaNum
import Derived.Test.YtgnaljnmjphleaaDoorRefh
import Derived.Test.YtgnaljnmjphleaaDoorMdyf
import Derived.Test.YtgnaljnmjphleaaDoorShelf
namespace Go.Proofs.YtgnaljnmjphleaaDoor
open Go.RowKit

def bitsN (m : Nat) : Nat := if h : m = 0 then 0 else bitsN (m / 2) + 1
termination_by m
decreasing_by exact Nat.div_lt_self (by omega) (by decide)
theorem bitsN_zero : bitsN 0 = 0 := by rw [bitsN, dif_pos rfl]
theorem bitsN_pos {m : Nat} (h : m ≠ 0) : bitsN m = bitsN (m / 2) + 1 := by rw [bitsN, dif_neg h]
theorem bits_of : ∀ (n m : Nat), m < 2 ^ n → (0 < n → 2 ^ (n - 1) ≤ m) → bitsN m = n
  | 0, m, h, _ => by
    have : m = 0 := by simp at h; exact h
    subst this; exact bitsN_zero
  | n + 1, m, h, h2 => by
    have h3 := h2 (by omega)
    rw [show n + 1 - 1 = n by omega] at h3
    have hp : 0 < 2 ^ n := Nat.pow_pos (by decide)
    rw [Nat.pow_succ] at h
    rw [bitsN_pos (by omega), bits_of n (m / 2) (by omega) (fun hn => ?_)]
    rw [show n = n - 1 + 1 by omega, Nat.pow_succ] at h3
    omega
theorem bits_shift : ∀ (j m : Nat), m / 2 ^ j ≠ 0 → bitsN m = bitsN (m / 2 ^ j) + j
  | 0, m, _ => by simp
  | j + 1, m, h => by
    have e : m / 2 ^ (j + 1) = m / 2 ^ j / 2 := by rw [Nat.pow_succ, Nat.div_div_eq_div_mul]
    have h0 : m / 2 ^ j ≠ 0 := fun e0 => h (by rw [e, e0, Nat.zero_div])
    rw [bits_shift j m h0, bitsN_pos h0, e]; omega
theorem bitLen_eq {x : Nat} (h : x < 4294967296) : Lib.bitLen x = bitsN x := by
  by_cases h0 : x = 0
  · subst h0; rw [bitsN_zero]; rfl
  · obtain ⟨h1, h2, h3⟩ := Lib.bitLenAux_bounds 64 x (Nat.lt_trans h (by decide)) h0
    exact (bits_of _ x h3 (fun _ => h2)).symm
theorem bitsN_le {m n : Nat} (h : m < 2 ^ n) : bitsN m ≤ n := by
  rcases Nat.lt_or_ge n (bitsN m) with h1 | h1
  · exfalso
    have h2 : m / 2 ^ n = 0 := Nat.div_eq_of_lt h
    have : ∀ j m, m / 2 ^ j = 0 → bitsN m ≤ j := by
      intro j
      induction j with
      | zero => intro m h; simp at h; subst h; rw [bitsN_zero]; exact Nat.le_refl _
      | succ j ih =>
        intro m h
        by_cases h0 : m = 0
        · subst h0; rw [bitsN_zero]; omega
        · rw [bitsN_pos h0]
          have := ih (m / 2) (by rw [Nat.div_div_eq_div_mul, Nat.mul_comm, ← Nat.pow_succ]; exact h)
          omega
    have := this n m h2
    omega
  · exact h1

theorem two0 {q : Nat} (h : q < 2) (h2 : q % 2 = 0) : q = 0 := by omega
theorem two1 {q : Nat} (h : q < 2) (h2 : q % 2 = 1) : q = 1 := by omega

set_option maxRecDepth 100000 in
set_option maxHeartbeats 1000000 in
theorem bitLength_any (A : Option Addr) (m c : Nat) (w : World) (ha : Rd w A (len m) (dg m)) (hL : len m ≤ 1073741824) :
    Calls Tryd.prog 131 #[.slice A (len m) c] w fun e w' => e = .returned (I (bitsN m)) ∧ w = w' := by
  by_cases h0 : m = 0
  · subst h0
    rw [len_zero, bitsN_zero]
    clear ha hL
    go_enter Tryd.func131, Tryd.ntmps131
    go_wp2
    go_ret
    exact ⟨rfl, rfl⟩
  · have ht := dg_top h0
    have hlz : len m ≠ 0 := fun e => h0 (len_eq_zero.1 e)
    obtain ⟨K, hK⟩ : ∃ K, len m = K + 1 := ⟨len m - 1, by omega⟩
    rw [hK] at ha hL ht ⊢
    rw [show K + 1 - 1 = K by omega] at ht
    obtain ⟨b2, o2, rfl, hb2, c2⟩ := ha.at_ (k := K) (by omega)
    have hxl := dg_lt m K
    have hd : dg m K = m / pB K := by
      unfold dg
      rw [Nat.mod_eq_of_lt]
      have := lt_pB_len m
      rw [hK, pB_succ] at this
      rw [Nat.div_lt_iff_lt_mul (by unfold pB; exact Nat.pow_pos (by decide))]
      first | exact this | (rw [Nat.mul_comm]; exact this)
    have hb := bits_shift (32 * K) m (by rw [← pB_two, ← hd]; exact ht)
    rw [← pB_two, ← hd] at hb
    obtain ⟨x, hx⟩ : ∃ x, dg m K = x := ⟨_, rfl⟩
    rw [hx] at c2 hxl hb ht
    have hbl := bitLen_eq hxl
    have hb32 : bitsN x ≤ 32 := bitsN_le (by exact hxl)
    obtain ⟨t, hte⟩ : ∃ t, bitsN x = t := ⟨_, rfl⟩
    rw [hte] at hb hbl hb32
    have HR := Lib.hid hb
    rw [HR.out]
    have h1 : ((K : Int) + 1 == 0) = false := by simp; omega
    have HBL := Lib.hid hbl
    have e9 : (K : Int) * 32 + (t : Int) = ((t + 32 * K : Nat) : Int) := by omega
    clear hd hb hx hte hbl ha
    go_enter Tryd.func131, Tryd.ntmps131
    go_wp2_with (go_at_call 115; refine (Tryd.bits_Len32 (x : Int) _ (by omega) (by omega)).mono ?_; rw [Int.toNat_natCast, HBL.out]; rintro e w4 ⟨rfl, rfl⟩)
    go_ret
    exact ⟨rfl, rfl⟩

set_option maxRecDepth 100000 in
set_option maxHeartbeats 1000000 in
theorem bits_any {w : World} {neg : Bool} {A A' : Option Addr} {n c c' : Nat} {den : Int} {d : DV} (h : Dy w neg A n c den d A' c') : Calls Tryd.prog 117 #[dv neg A n c den] w fun e w' => e = .returned (I (bitsN d.m)) ∧ Ext w w' := by
  have H := Lib.hid h; clear h
  have hl1 := H.out.lim
  have hfd : ∀ w : World, (Instr.field 45 (dv d.neg A' (len d.m) c' d.den) 1).run Tryd.prog w = .ok (.slice A' (len d.m) c') w := fun _ => by kernel_rfl
  go_enter Tryd.func117, Tryd.ntmps117
  go_wp2_with (first
    | (go_at_call 65; (refine (H.out.num _ (Ext.alloc _ _)).mono ?_; rintro e w1 ⟨rfl, hx⟩; have HX := Lib.hid ((Ext.alloc _ _).trans hx); clear hx))
    | (go_at_call 131; (refine (bitLength_any A' d.m c' _ (H.out.rd.ext HX.out) (by omega)).mono ?_; rintro e w4 ⟨rfl, rfl⟩)))
  go_ret
  exact ⟨rfl, HX.out⟩

end Go.Proofs.YtgnaljnmjphleaaDoor
