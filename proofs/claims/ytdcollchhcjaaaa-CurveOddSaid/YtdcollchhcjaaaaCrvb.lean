/- Curves: the plain mathematics of slopes, inverses, orders and odd curves. -/
import Derived.Test.YtdcollchhcjaaaaCrva
namespace Go.Proofs.Ytdcollchhcjaaaa
open Go.RowKit

/-! ### The greatest slope -/
def cdv (a r : Int) : Int := (a + r - 1) / r
def cl31 (d : Int) : Int := if d < 0 then 0 else if 2147483648 < d then 2147483648 else d
def stp (X Y : Nat → Int) (d : Int) : Nat → Int
  | 0 => 0
  | k + 1 => if stp X Y d k < cdv (d * (Y (k + 1) - Y k)) (X (k + 1) - X k) then cdv (d * (Y (k + 1) - Y k)) (X (k + 1) - X k) else stp X Y d k
def steep (n : Nat) (X Y : Nat → Int) (d : Int) : Int := stp X Y (cl31 d) (n - 1)
theorem cl31_bd (d : Int) : 0 ≤ cl31 d ∧ cl31 d ≤ 2147483648 := by unfold cl31; split <;> (try split) <;> omega
theorem stp_nn (X Y : Nat → Int) (d : Int) : ∀ k, 0 ≤ stp X Y d k
  | 0 => by simp [stp]
  | k + 1 => by have := stp_nn X Y d k; unfold stp; split <;> omega
theorem stp_ge (X Y : Nat → Int) (d : Int) : ∀ k i, i < k → cdv (d * (Y (i + 1) - Y i)) (X (i + 1) - X i) ≤ stp X Y d k
  | 0, i, h => by omega
  | k + 1, i, h => by
    unfold stp
    by_cases hi : i = k
    · subst hi; split <;> omega
    · have := stp_ge X Y d k i (by omega); split <;> omega
theorem cdv_ge {a r : Int} (hr : 0 < r) : a ≤ cdv a r * r := by
  unfold cdv
  have e2 := Int.mul_ediv_add_emod (a + r - 1) r
  have e3 := Int.emod_nonneg (a + r - 1) (by omega : r ≠ 0)
  have e4 := Int.emod_lt_of_pos (a + r - 1) hr
  rw [Int.mul_comm] at e2
  generalize (a + r - 1) / r * r = q at *
  omega
theorem slp_le {n : Nat} {X Y : Nat → Int} (c : Crv n X Y) {d B : Int} (hB : stp X Y d (n - 1) ≤ B) {i : Nat} (hi : i + 1 < n) : (d : Rat) * slp X Y i ≤ (B : Rat) := by
  have hm := c.mX i hi
  have hd := cps (show 0 < X (i + 1) - X i by omega)
  have h1 := stp_ge X Y d (n - 1) i (by omega)
  have h2 := cdv_ge (a := d * (Y (i + 1) - Y i)) (r := X (i + 1) - X i) (by omega)
  have h3 : cdv (d * (Y (i + 1) - Y i)) (X (i + 1) - X i) * (X (i + 1) - X i) ≤ B * (X (i + 1) - X i) := Int.mul_le_mul_of_nonneg_right (by omega) (by omega)
  have h4 := cle.2 (Int.le_trans h2 h3)
  unfold slp
  refine le_of_mul hd ?_
  rw [Rat.mul_assoc, Rat.div_mul_cancel (by grind)]
  simpa [Rat.intCast_mul] using h4
theorem vl_lip1 {n : Nat} {X Y : Nat → Int} (c : Crv n X Y) {d B : Int} (hB0 : 0 ≤ B) (hB : stp X Y d (n - 1) ≤ B) (x : Int) :
    (d : Rat) * vl n X Y (x + 1) ≤ (d : Rat) * vl n X Y x + (B : Rat) := by
  have hb := cnn hB0
  rcases vl_step c x with ⟨h, _⟩ | ⟨i, hi, _, _, h⟩
  · rw [h]; grind
  · rw [h, Rat.mul_add]; have := slp_le c hB hi; grind
theorem vl_lipN {n : Nat} {X Y : Nat → Int} (c : Crv n X Y) {d B : Int} (hB0 : 0 ≤ B) (hB : stp X Y d (n - 1) ≤ B) (x : Int) : ∀ k : Nat,
    (d : Rat) * vl n X Y (x + k) ≤ (d : Rat) * vl n X Y x + (B : Rat) * ((k : Int) : Rat)
  | 0 => by simp; grind
  | k + 1 => by
    have h1 := vl_lipN c hB0 hB x k
    have h2 := vl_lip1 c hB0 hB (x + k)
    rw [show x + ((k + 1 : Nat) : Int) = x + k + 1 by omega]
    have e : (((k + 1 : Nat) : Int) : Rat) = ((k : Int) : Rat) + 1 := by simp
    rw [e, Rat.mul_add]; grind
theorem atv_lip {n : Nat} {X Y : Nat → Int} (c : Crv n X Y) {x y : Int} (h : x ≤ y) : atv n X Y y ≤ atv n X Y x + steep n X Y (y - x) := by
  have h2 := c.two
  have hB0 : 0 ≤ steep n X Y (y - x) := stp_nn X Y _ _
  obtain ⟨B, hB⟩ : ∃ B, steep n X Y (y - x) = B := ⟨_, rfl⟩
  rw [hB] at hB0 ⊢
  refine tru_add hB0 ?_
  unfold steep at hB
  have hb := cnn hB0
  by_cases h0 : y = x
  · subst h0; grind
  · by_cases h1 : y - x ≤ 2147483648
    · have e : cl31 (y - x) = y - x := by unfold cl31; rw [if_neg (by omega), if_neg (by omega)]
      rw [e] at hB
      have := vl_lipN c hB0 (by omega : stp X Y (y - x) (n - 1) ≤ B) x (y - x).toNat
      rw [show x + ((y - x).toNat : Int) = y by omega, show (((y - x).toNat : Nat) : Int) = y - x by omega] at this
      have hd := cps (show 0 < y - x by omega)
      exact le_of_mul hd (by grind)
    · have e : cl31 (y - x) = 2147483648 := by unfold cl31; rw [if_neg (by omega), if_pos (by omega)]
      rw [e] at hB
      obtain ⟨a1, a2⟩ := c.bX 0 (by omega)
      obtain ⟨b1, b2⟩ := c.bX (n - 1) (by omega)
      have o := c.leX (i := 0) (j := n - 1) (by omega) (by omega)
      have := vl_lipN c hB0 (by omega : stp X Y 2147483648 (n - 1) ≤ B) (X 0) (X (n - 1) - X 0).toNat
      rw [show X 0 + ((X (n - 1) - X 0).toNat : Int) = X (n - 1) by omega, show (((X (n - 1) - X 0).toNat : Nat) : Int) = X (n - 1) - X 0 by omega] at this
      have hk : B * (X (n - 1) - X 0) ≤ B * 2147483648 := Int.mul_le_mul_of_nonneg_left (by omega) hB0
      have hk' := cle.2 hk
      rw [Rat.intCast_mul, Rat.intCast_mul] at hk'
      have hd := cps (show (0 : Int) < 2147483648 by omega)
      have l1 : vl n X Y (X (n - 1)) ≤ vl n X Y (X 0) + (B : Rat) := le_of_mul hd (by grind)
      have l2 : vl n X Y y ≤ vl n X Y (X (n - 1)) := by
        by_cases hy : X (n - 1) ≤ y
        · rw [vl_hi c hy, vl_hi c (Int.le_refl _)]; exact Rat.le_refl
        · exact vl_mono c (by omega)
      have l3 : vl n X Y (X 0) ≤ vl n X Y x := by
        by_cases hx : x ≤ X 0
        · rw [vl_lo hx, vl_lo (Int.le_refl _)]; exact Rat.le_refl
        · exact vl_mono c (by omega)
      grind

/-! ### The least place that reaches a value -/
structure IsInv (n : Nat) (X Y : Nat → Int) (y v : Int) : Prop where
  lo : X 0 ≤ v
  hi : v ≤ X (n - 1)
  at' : y ≤ atv n X Y v
  least : ∀ x, X 0 ≤ x → x < v → atv n X Y x < y
theorem inv_uniq {n : Nat} {X Y : Nat → Int} {y u v : Int} (h : IsInv n X Y y u) (k : IsInv n X Y y v) : u = v := by
  by_cases h1 : u < v
  · have := k.least u h.lo h1; have := h.at'; omega
  · by_cases h2 : v < u
    · have := h.least v k.lo h2; have := k.at'; omega
    · omega
open Classical in
noncomputable def inv (n : Nat) (X Y : Nat → Int) (y : Int) : Int := if h : ∃ v, IsInv n X Y y v then Classical.choose h else 0
theorem inv_is {n : Nat} {X Y : Nat → Int} {y v : Int} (h : IsInv n X Y y v) : inv n X Y y = v := by
  have hh : ∃ v, IsInv n X Y y v := ⟨v, h⟩
  unfold inv; rw [dif_pos hh]; exact inv_uniq (Classical.choose_spec hh) h
theorem inv_ex {n : Nat} {X Y : Nat → Int} (c : Crv n X Y) {y : Int} (hy : y ≤ Y (n - 1)) : ∃ v, IsInv n X Y y v := by
  have h2 := c.two
  have o := c.leX (i := 0) (j := n - 1) (by omega) (by omega)
  have key : ∀ (k : Nat) (u : Int), X 0 ≤ u → u ≤ X (n - 1) → (X (n - 1) - u).toNat = k → (∀ x, X 0 ≤ x → x < u → atv n X Y x < y) → ∃ v, IsInv n X Y y v := by
    intro k
    induction k with
    | zero =>
      intro u h0 h1 hk hl
      obtain rfl : u = X (n - 1) := by omega
      exact ⟨_, h0, Int.le_refl _, by rw [atv_hi c (Int.le_refl _)]; exact hy, hl⟩
    | succ k ih =>
      intro u h0 h1 hk hl
      by_cases hu : y ≤ atv n X Y u
      · exact ⟨u, h0, h1, hu, hl⟩
      · refine ih (u + 1) (by omega) (by omega) (by omega) (fun x hx hxu => ?_)
        by_cases he : x = u
        · subst he; omega
        · exact hl x hx (by omega)
  exact key _ (X 0) (Int.le_refl _) o rfl (fun x h1 h2 => by omega)
theorem inv_galois {n : Nat} {X Y : Nat → Int} (c : Crv n X Y) {x y v : Int} (h : IsInv n X Y y v) (h0 : X 0 ≤ x) : y ≤ atv n X Y x ↔ v ≤ x := by
  constructor
  · intro hy
    apply Classical.byContradiction; intro hc
    have := h.least x h0 (by omega); omega
  · intro hv
    have := atv_mono c hv; have := h.at'; omega

/-! ### One curve below another one -/
def blw (n : Nat) (X Y : Nat → Int) (m : Nat) (U V : Nat → Int) : Prop := (∀ i, i < n → (Y i : Rat) ≤ vl m U V (X i)) ∧ ∀ j, j < m → vl n X Y (U j) ≤ (V j : Rat)
theorem vl_bend {n : Nat} {X Y : Nat → Int} (c : Crv n X Y) {x : Int} (hx : ∀ i, i < n → x ≠ X i) : vl n X Y (x + 1) - vl n X Y x = vl n X Y x - vl n X Y (x - 1) := by
  have h2 := c.two
  have n0 := hx 0 (by omega)
  have n1 := hx (n - 1) (by omega)
  by_cases h0 : x < X 0
  · rw [vl_lo (show x + 1 ≤ X 0 by omega), vl_lo (show x ≤ X 0 by omega), vl_lo (show x - 1 ≤ X 0 by omega)]
  · by_cases h1 : X (n - 1) < x
    · rw [vl_hi c (show X (n - 1) ≤ x + 1 by omega), vl_hi c (show X (n - 1) ≤ x by omega), vl_hi c (show X (n - 1) ≤ x - 1 by omega)]
    · obtain ⟨i, hi, a, b⟩ := between (n := n) (X := X) (x := x) (n - 1) (by omega) (by omega) (by omega)
      have ni := hx i (by omega)
      rw [vl_seg c hi (x := x + 1) (by omega) (by omega), vl_seg c hi a (by omega), vl_seg c hi (x := x - 1) (by omega) (by omega), sg_step]
      have := sg_step X Y i (x - 1)
      rw [show x - 1 + 1 = x by omega] at this
      rw [this]; grind
theorem never_neg (D : Int → Rat) (S : Int → Prop) (hS : ∀ x, S x → 0 ≤ D x) (hb : ∀ x, ¬ S x → D (x + 1) - D x = D x - D (x - 1)) (lo hi : Int) (hl : ∀ x, x ≤ lo → 0 ≤ D x) (hh : ∀ x, hi ≤ x → 0 ≤ D x) (x : Int) : 0 ≤ D x := by
  apply Classical.byContradiction; intro hc
  have h0 : D x < 0 := by grind
  by_cases hr : D (x + 1) ≤ D x
  · have key : ∀ k : Nat, D (x + k) < 0 ∧ D (x + k + 1) ≤ D (x + k) := by
      intro k
      induction k with
      | zero => simpa using ⟨h0, hr⟩
      | succ k ih =>
        obtain ⟨a, b⟩ := ih
        have ns : ¬ S (x + k + 1) := fun hs => by have := hS _ hs; grind
        have e := hb _ ns
        rw [show x + k + 1 - 1 = x + (k : Int) by omega] at e
        rw [show x + ((k + 1 : Nat) : Int) = x + k + 1 by omega]
        exact ⟨by grind, by grind⟩
    have := (key (hi - x).toNat).1
    have := hh (x + (hi - x).toNat) (by omega)
    grind
  · have key : ∀ k : Nat, D (x - k) < 0 ∧ D (x - k) < D (x - k + 1) := by
      intro k
      induction k with
      | zero => simp; exact ⟨h0, by grind⟩
      | succ k ih =>
        obtain ⟨a, b⟩ := ih
        have ns : ¬ S (x - k) := fun hs => by have := hS _ hs; grind
        have e := hb _ ns
        rw [show x - ((k + 1 : Nat) : Int) = x - k - 1 by omega, show x - (k : Int) - 1 + 1 = x - k by omega]
        exact ⟨by grind, by grind⟩
    have := (key (x - lo).toNat).1
    have := hl (x - (x - lo).toNat) (by omega)
    grind
theorem blw_all {n : Nat} {X Y : Nat → Int} {m : Nat} {U V : Nat → Int} (c : Crv n X Y) (k : Crv m U V) (h : blw n X Y m U V) (x : Int) : vl n X Y x ≤ vl m U V x := by
  obtain ⟨h1, h2⟩ := h
  have cn := c.two
  have kn := k.two
  have pa : ∀ i, i < n → 0 ≤ vl m U V (X i) - vl n X Y (X i) := fun i hi => by rw [vl_pt c hi]; have := h1 i hi; grind
  have pb : ∀ i, i < m → 0 ≤ vl m U V (U i) - vl n X Y (U i) := fun i hi => by rw [vl_pt k hi]; have := h2 i hi; grind
  have := never_neg (fun x => vl m U V x - vl n X Y x) (fun x => (∃ i, i < n ∧ x = X i) ∨ ∃ i, i < m ∧ x = U i)
    (fun x hx => by
      rcases hx with ⟨i, hi, rfl⟩ | ⟨i, hi, rfl⟩
      · exact pa i hi
      · exact pb i hi)
    (fun x hx => by
      have e1 := vl_bend c (x := x) (fun i hi he => hx (.inl ⟨i, hi, he⟩))
      have e2 := vl_bend k (x := x) (fun i hi he => hx (.inr ⟨i, hi, he⟩))
      show vl m U V (x + 1) - vl n X Y (x + 1) - (vl m U V x - vl n X Y x) = vl m U V x - vl n X Y x - (vl m U V (x - 1) - vl n X Y (x - 1))
      grind)
    (min (X 0) (U 0)) (max (X (n - 1)) (U (m - 1)))
    (fun x hx => by
      show 0 ≤ vl m U V x - vl n X Y x
      by_cases ho : X 0 ≤ U 0
      · have := pa 0 (by omega)
        rw [vl_lo (show X 0 ≤ U 0 by omega), vl_lo (Int.le_refl (X 0))] at this
        rw [vl_lo (show x ≤ U 0 by omega), vl_lo (show x ≤ X 0 by omega)]; exact this
      · have := pb 0 (by omega)
        rw [vl_lo (show U 0 ≤ X 0 by omega), vl_lo (Int.le_refl (U 0))] at this
        rw [vl_lo (show x ≤ U 0 by omega), vl_lo (show x ≤ X 0 by omega)]; exact this)
    (fun x hx => by
      show 0 ≤ vl m U V x - vl n X Y x
      by_cases ho : U (m - 1) ≤ X (n - 1)
      · have := pa (n - 1) (by omega)
        rw [vl_hi k ho, vl_hi c (Int.le_refl _)] at this
        rw [vl_hi k (show U (m - 1) ≤ x by omega), vl_hi c (show X (n - 1) ≤ x by omega)]; exact this
      · have := pb (m - 1) (by omega)
        rw [vl_hi c (show X (n - 1) ≤ U (m - 1) by omega), vl_hi k (Int.le_refl _)] at this
        rw [vl_hi k (show U (m - 1) ≤ x by omega), vl_hi c (show X (n - 1) ≤ x by omega)]; exact this)
    x
  grind
theorem blw_at {n : Nat} {X Y : Nat → Int} {m : Nat} {U V : Nat → Int} (c : Crv n X Y) (k : Crv m U V) (h : blw n X Y m U V) (x : Int) : atv n X Y x ≤ atv m U V x := tru_mono (blw_all c k h x)

/-! ### Odd curves -/
def od (n : Nat) (X : Nat → Int) (k : Nat) : Int := if k < n then -X (n - 1 - k) else if k = n then 0 else X (k - n - 1)
theorem od_mirror (n : Nat) (X : Nat → Int) (k : Nat) (hk : k ≤ 2 * n) : od n X (2 * n - k) = -od n X k := by
  unfold od
  by_cases h1 : k < n
  · rw [if_pos h1, if_neg (by omega), if_neg (by omega)]
    rw [show 2 * n - k - n - 1 = n - 1 - k by omega]; omega
  · by_cases h2 : k = n
    · subst h2; rw [if_neg (by omega), if_pos (by omega), if_neg (by omega), if_pos rfl]; rfl
    · rw [if_pos (by omega), if_neg h1, if_neg h2]
      rw [show n - 1 - (2 * n - k) = k - n - 1 by omega]
theorem vl_odd {n : Nat} {X Y : Nat → Int} (c : Crv (2 * n + 1) (od n X) (od n Y)) (x : Int) : vl (2 * n + 1) (od n X) (od n Y) (-x) = -vl (2 * n + 1) (od n X) (od n Y) x := by
  have h2 := c.two
  have mx := od_mirror n X
  have my := od_mirror n Y
  generalize od n X = P at *
  generalize od n Y = Q at *
  have x0 := mx 0 (by omega)
  have y0 := my 0 (by omega)
  rw [Nat.sub_zero] at x0 y0
  by_cases h0 : x ≤ P 0
  · rw [vl_lo h0, vl_hi c (x := -x) (by rw [Nat.add_sub_cancel]; omega), Nat.add_sub_cancel, y0]; simp
  · by_cases h1 : P (2 * n) ≤ x
    · rw [vl_hi c (x := x) (by rw [Nat.add_sub_cancel]; omega), vl_lo (x := -x) (by omega), Nat.add_sub_cancel, y0]; simp
    · obtain ⟨i, hi, a, b⟩ := between (n := 2 * n + 1) (X := P) (x := x) (2 * n) (by omega) (by omega) (by omega)
      have e1 := mx i (by omega)
      have e2 := mx (i + 1) (by omega)
      have e3 := my i (by omega)
      have e4 := my (i + 1) (by omega)
      obtain ⟨j, hj⟩ : ∃ j, 2 * n - (i + 1) = j := ⟨_, rfl⟩
      rw [hj] at e2 e4
      rw [show 2 * n - i = j + 1 by omega] at e1 e3
      rw [vl_seg c hi a (by omega), vl_seg c (i := j) (x := -x) (by omega) (by omega) (by omega)]
      have m1 := sg_mul (Y := Q) (x := x) (c.mX i hi)
      have m2 := sg_mul (Y := Q) (x := -x) (c.mX j (by omega))
      have hd := cps (show 0 < P (i + 1) - P i by have := c.mX i hi; omega)
      rw [e1, e2, e3, e4, show -P i - -P (i + 1) = P (i + 1) - P i by omega] at m2
      generalize sg P Q i x = s at *
      generalize sg P Q j (-x) = t at *
      have ee : (-Q (i + 1) * (P (i + 1) - P i) + (-Q i - -Q (i + 1)) * (-x - -P (i + 1)) : Int) = -(Q i * (P (i + 1) - P i) + (Q (i + 1) - Q i) * (x - P i)) := by grind
      rw [ee, Rat.intCast_neg, ← m1] at m2
      refine Rat.le_antisymm (le_of_mul hd ?_) (le_of_mul hd ?_) <;> grind
theorem atv_odd {n : Nat} {X Y : Nat → Int} (c : Crv (2 * n + 1) (od n X) (od n Y)) (x : Int) : atv (2 * n + 1) (od n X) (od n Y) (-x) = -atv (2 * n + 1) (od n X) (od n Y) x := by
  unfold atv; rw [vl_odd c, tru_neg]
end Go.Proofs.Ytdcollchhcjaaaa
