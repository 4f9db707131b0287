/- Curves: the plain mathematics. The value as a rational number; rounded toward 0. -/
import Derived.Test.YtdcollchhcjaaaaNum
namespace Go.Proofs.Ytdcollchhcjaaaa
open Go.RowKit

/-! ### Rational numbers without their fraction -/
theorem cle {a b : Int} : (a : Rat) ≤ (b : Rat) ↔ a ≤ b := Rat.intCast_le_intCast
theorem clt {a b : Int} : (a : Rat) < (b : Rat) ↔ a < b := Rat.intCast_lt_intCast
theorem cps {d : Int} (hd : 0 < d) : (0 : Rat) < (d : Rat) := by have := clt.2 hd; simpa using this
theorem cnn {d : Int} (hd : 0 ≤ d) : (0 : Rat) ≤ (d : Rat) := by have := cle.2 hd; simpa using this
theorem cof {d : Int} (hd : (0 : Rat) ≤ (d : Rat)) : 0 ≤ d := by apply cle.1; simpa using hd

/-- T is v without its fraction. -/
def Tr (v : Rat) (T : Int) : Prop := (0 ≤ v ∧ (T : Rat) ≤ v ∧ v < (T : Rat) + 1) ∨ (v < 0 ∧ (T : Rat) - 1 < v ∧ v ≤ (T : Rat))
def tru (v : Rat) : Int := v.num.tdiv v.den

theorem le_of_mul {u v d : Rat} (hd : 0 < d) (h : u * d ≤ v * d) : u ≤ v := by
  apply Classical.byContradiction; intro hc
  have := Rat.mul_lt_mul_of_pos_right (show v < u by grind) hd
  grind
theorem lt_of_mul {u v d : Rat} (hd : 0 < d) (h : u * d < v * d) : u < v := by
  apply Classical.byContradiction; intro hc
  have := Rat.mul_le_mul_of_nonneg_right (show v ≤ u by grind) (Rat.le_of_lt hd)
  grind

theorem tr_div {v : Rat} {n d : Int} (hd : 0 < d) (h : v * (d : Rat) = (n : Rat)) : Tr v (n.tdiv d) := by
  have hd' := cps hd
  by_cases hn : 0 ≤ n
  · have e1 := Int.tdiv_eq_ediv_of_nonneg (b := d) hn
    have e2 := Int.mul_ediv_add_emod n d
    have e3 := Int.emod_nonneg n (by omega : d ≠ 0)
    have e4 := Int.emod_lt_of_pos n hd
    rw [e1]
    generalize n / d = q at *
    generalize n % d = r at *
    have e5 : (n : Rat) = (d : Rat) * (q : Rat) + (r : Rat) := by rw [← e2]; simp
    have e6 := cnn e3
    have e7 := clt.2 e4
    have e8 := cnn hn
    left
    exact ⟨le_of_mul hd' (by grind), le_of_mul hd' (by grind), lt_of_mul hd' (by grind)⟩
  · have e0 : n.tdiv d = -((-n) / d) := by
      have := Int.tdiv_eq_ediv_of_nonneg (a := -n) (b := d) (by omega)
      rw [Int.neg_tdiv] at this; omega
    have e2 := Int.mul_ediv_add_emod (-n) d
    have e3 := Int.emod_nonneg (-n) (by omega : d ≠ 0)
    have e4 := Int.emod_lt_of_pos (-n) hd
    rw [e0]
    generalize (-n) / d = q at *
    generalize (-n) % d = r at *
    have e5 : (n : Rat) = -((d : Rat) * (q : Rat) + (r : Rat)) := by
      rw [show n = -(d * q + r) by omega]; simp
    have e6 := cnn e3
    have e7 := clt.2 e4
    have e8 : (n : Rat) < 0 := by have := clt.2 (show n < 0 by omega); simpa using this
    right
    exact ⟨lt_of_mul hd' (by grind), lt_of_mul hd' (by simp; grind), le_of_mul hd' (by simp; grind)⟩

theorem tr_tru (v : Rat) : Tr v (tru v) := by
  refine tr_div (by have := v.den_pos; omega) ?_
  have h := Rat.num_divInt_den v
  rw [Rat.divInt_eq_div] at h
  have hd := cps (show (0 : Int) < (v.den : Int) by have := v.den_pos; omega)
  have e : v * ((v.den : Int) : Rat) = (v.num : Rat) / ((v.den : Int) : Rat) * ((v.den : Int) : Rat) := by rw [h]
  rw [e, Rat.div_mul_cancel (by grind)]

theorem tr_uniq {v : Rat} {S T : Int} (h : Tr v S) (k : Tr v T) : S = T := by
  rcases h with ⟨a, b, c⟩ | ⟨a, b, c⟩ <;> rcases k with ⟨d, e, f⟩ | ⟨d, e, f⟩
  · have h1 : (S : Rat) < ((T + 1 : Int) : Rat) := by simp; grind
    have h2 : (T : Rat) < ((S + 1 : Int) : Rat) := by simp; grind
    have := clt.1 h1; have := clt.1 h2; omega
  · grind
  · grind
  · have h1 : ((S - 1 : Int) : Rat) < (T : Rat) := by simp; grind
    have h2 : ((T - 1 : Int) : Rat) < (S : Rat) := by simp; grind
    have := clt.1 h1; have := clt.1 h2; omega

theorem tru_div {v : Rat} {n d : Int} (hd : 0 < d) (h : v * (d : Rat) = (n : Rat)) : n.tdiv d = tru v := tr_uniq (tr_div hd h) (tr_tru v)
theorem tru_int (n : Int) : tru (n : Rat) = n := by
  refine tr_uniq (tr_tru _) ?_
  by_cases h : 0 ≤ n
  · have := cnn h; left; exact ⟨this, by grind, by grind⟩
  · have : (n : Rat) < 0 := by have := clt.2 (show n < 0 by omega); simpa using this
    right; exact ⟨this, by grind, by grind⟩
theorem tru_add {u v : Rat} {N : Int} (hN : 0 ≤ N) (h : v ≤ u + (N : Rat)) : tru v ≤ tru u + N := by
  have hn := cnn hN
  have a := tr_tru u
  have b := tr_tru v
  generalize tru u = S at *
  generalize tru v = T at *
  by_cases hm : 0 ≤ u ∧ v < 0
  · obtain ⟨m1, m2⟩ := hm
    have h1 : ((-1 : Int) : Rat) < (S : Rat) := by
      rcases a with ⟨a, a1, a2⟩ | ⟨a, a1, a2⟩
      · simp; grind
      · grind
    have h2 : (T : Rat) < ((1 : Int) : Rat) := by
      rcases b with ⟨b, b1, b2⟩ | ⟨b, b1, b2⟩
      · grind
      · simp; grind
    have := clt.1 h1; have := clt.1 h2; omega
  · have key : (T : Rat) < ((S + N + 1 : Int) : Rat) := by
      simp
      rcases a with ⟨a, a1, a2⟩ | ⟨a, a1, a2⟩ <;> rcases b with ⟨b, b1, b2⟩ | ⟨b, b1, b2⟩ <;> grind
    have := clt.1 key; omega
theorem tru_mono {u v : Rat} (h : u ≤ v) : tru u ≤ tru v := by
  have := tru_add (u := v) (v := u) (N := 0) (by omega) (by rw [show ((0 : Int) : Rat) = 0 from rfl]; grind)
  omega
theorem tru_neg (v : Rat) : tru (-v) = -tru v := by
  have a := tr_tru v
  refine tr_uniq (tr_tru _) ?_
  generalize tru v = S at *
  by_cases h0 : v = 0
  · subst h0
    rcases a with ⟨a, a1, a2⟩ | ⟨a, a1, a2⟩
    · have h1 : S ≤ 0 := cle.1 (by simpa using a1)
      have h2 : -1 < S := clt.1 (by simp; grind)
      have : S = 0 := by omega
      subst this; left; simp; grind
    · grind
  · rcases a with ⟨a, a1, a2⟩ | ⟨a, a1, a2⟩
    · right; simp; grind
    · left; simp; grind

/-! ### Curves -/
def out30 (x : Int) : Bool := decide (x < -1073741824) || decide (1073741824 < x)
def ckAt (X Y : Nat → Int) (i : Nat) : Int :=
  if out30 (X i) = true ∨ out30 (Y i) = true then 3 else if 0 < i ∧ (X i ≤ X (i - 1) ∨ Y i < Y (i - 1)) then 26 else 0
def ckFrom (X Y : Nat → Int) : Nat → Nat → Int
  | 0, _ => 0
  | r + 1, i => if ckAt X Y i = 0 then ckFrom X Y r (i + 1) else ckAt X Y i
/-- The first error of a curve of n and m coordinates. -/
def chk (n m : Nat) (X Y : Nat → Int) : Int := if n ≠ m then 11 else if 32 < n then 4 else if n < 2 then 11 else ckFrom X Y n 0

structure Crv (n : Nat) (X Y : Nat → Int) : Prop where
  two : 2 ≤ n
  le : n ≤ 32
  bX : ∀ i, i < n → -1073741824 ≤ X i ∧ X i ≤ 1073741824
  bY : ∀ i, i < n → -1073741824 ≤ Y i ∧ Y i ≤ 1073741824
  mX : ∀ i, i + 1 < n → X i < X (i + 1)
  mY : ∀ i, i + 1 < n → Y i ≤ Y (i + 1)

theorem out30_f {x : Int} (h : ¬ out30 x = true) : -1073741824 ≤ x ∧ x ≤ 1073741824 := by simp [out30] at h; omega
theorem ckAt_z {X Y : Nat → Int} {i : Nat} (h : ckAt X Y i = 0) : (-1073741824 ≤ X i ∧ X i ≤ 1073741824) ∧ (-1073741824 ≤ Y i ∧ Y i ≤ 1073741824) ∧ (0 < i → X (i - 1) < X i ∧ Y (i - 1) ≤ Y i) := by
  unfold ckAt at h
  split at h
  · cases h
  · rename_i h1
    split at h
    · cases h
    · rename_i h2
      refine ⟨out30_f (fun hh => h1 (.inl hh)), out30_f (fun hh => h1 (.inr hh)), fun h0 => ⟨?_, ?_⟩⟩
      · apply Classical.byContradiction; intro hc; exact h2 ⟨h0, .inl (by omega)⟩
      · apply Classical.byContradiction; intro hc; exact h2 ⟨h0, .inr (by omega)⟩
theorem ckFrom_z {X Y : Nat → Int} : ∀ (r i : Nat), ckFrom X Y r i = 0 → ∀ k, i ≤ k → k < i + r → ckAt X Y k = 0
  | 0, i, _, k, h1, h2 => by omega
  | r + 1, i, h, k, h1, h2 => by
    unfold ckFrom at h
    split at h
    · rename_i h0
      by_cases hk : k = i
      · subst hk; exact h0
      · exact ckFrom_z r (i + 1) h k (by omega) (by omega)
    · rename_i h0; exact (h0 h).elim
theorem crv_of {n m : Nat} {X Y : Nat → Int} (h : chk n m X Y = 0) : n = m ∧ Crv n X Y := by
  unfold chk at h
  split at h
  · cases h
  split at h
  · cases h
  split at h
  · cases h
  have hz : ∀ k, k < n → ckAt X Y k = 0 := fun k hk => ckFrom_z n 0 h k (Nat.zero_le _) (by omega)
  refine ⟨by omega, by omega, by omega, fun i hi => (ckAt_z (hz i hi)).1, fun i hi => (ckAt_z (hz i hi)).2.1, fun i hi => ?_, fun i hi => ?_⟩
  · have := ((ckAt_z (hz (i + 1) hi)).2.2 (by omega)).1; simpa using this
  · have := ((ckAt_z (hz (i + 1) hi)).2.2 (by omega)).2; simpa using this

theorem Crv.ltX {n : Nat} {X Y : Nat → Int} (c : Crv n X Y) : ∀ (j i : Nat), i < j → j < n → X i < X j
  | 0, i, h, _ => by omega
  | j + 1, i, h, hn => by
    have h1 := c.mX j hn
    by_cases he : i = j
    · subst he; exact h1
    · have := c.ltX j i (by omega) (by omega); omega
theorem Crv.leX {n : Nat} {X Y : Nat → Int} (c : Crv n X Y) {i j : Nat} (h : i ≤ j) (hn : j < n) : X i ≤ X j := by
  by_cases he : i = j
  · subst he; exact Int.le_refl _
  · have := c.ltX j i (by omega) hn; omega
theorem Crv.leY {n : Nat} {X Y : Nat → Int} (c : Crv n X Y) : ∀ (j i : Nat), i ≤ j → j < n → Y i ≤ Y j
  | 0, i, h, _ => by have : i = 0 := by omega
                     subst this; exact Int.le_refl _
  | j + 1, i, h, hn => by
    have h1 := c.mY j hn
    by_cases he : i = j + 1
    · subst he; exact Int.le_refl _
    · have := c.leY j i (by omega) (by omega); omega

/-- The value between points i and i + 1. -/
def sg (X Y : Nat → Int) (i : Nat) (x : Int) : Rat := (Y i : Rat) + ((Y (i + 1) - Y i : Int) : Rat) * ((x - X i : Int) : Rat) / ((X (i + 1) - X i : Int) : Rat)
def vlF (X Y : Nat → Int) (x : Int) : Nat → Nat → Rat
  | 0, i => (Y i : Rat)
  | r + 1, i => if x ≤ X (i + 1) then sg X Y i x else vlF X Y x r (i + 1)
/-- The value of a curve at x. -/
def vl (n : Nat) (X Y : Nat → Int) (x : Int) : Rat := if x ≤ X 0 then (Y 0 : Rat) else vlF X Y x (n - 1) 0

theorem sg_mul {X Y : Nat → Int} {i : Nat} {x : Int} (h : X i < X (i + 1)) :
    sg X Y i x * ((X (i + 1) - X i : Int) : Rat) = ((Y i * (X (i + 1) - X i) + (Y (i + 1) - Y i) * (x - X i) : Int) : Rat) := by
  have hd := cps (show 0 < X (i + 1) - X i by omega)
  unfold sg
  generalize X (i + 1) - X i = d at *
  generalize x - X i = z
  generalize Y (i + 1) - Y i = w
  rw [Rat.add_mul, Rat.div_mul_cancel (by grind)]
  simp
theorem sg_lo {X Y : Nat → Int} {i : Nat} : sg X Y i (X i) = (Y i : Rat) := by unfold sg; simp [Rat.div_def]; grind
theorem sg_hi {X Y : Nat → Int} {i : Nat} (h : X i < X (i + 1)) : sg X Y i (X (i + 1)) = (Y (i + 1) : Rat) := by
  have hd := cps (show 0 < X (i + 1) - X i by omega)
  have := sg_mul (Y := Y) (x := X (i + 1)) h
  generalize sg X Y i (X (i + 1)) = s at *
  have e : (Y i * (X (i + 1) - X i) + (Y (i + 1) - Y i) * (X (i + 1) - X i) : Int) = Y (i + 1) * (X (i + 1) - X i) := by grind
  rw [e] at this
  simp only [Rat.intCast_mul] at this
  exact Rat.le_antisymm (le_of_mul hd (by grind)) (le_of_mul hd (by grind))

theorem vlF_gt {X Y : Nat → Int} {x : Int} : ∀ (r i j : Nat), i ≤ j → j < i + r → (∀ k, i ≤ k → k < j → X (k + 1) < x) → x ≤ X (j + 1) → vlF X Y x r i = sg X Y j x
  | 0, i, j, h1, h2, _, _ => by omega
  | r + 1, i, j, h1, h2, h3, h4 => by
    unfold vlF
    by_cases hj : i = j
    · subst hj; rw [if_pos h4]
    · rw [if_neg (by have := h3 i (by omega) (by omega); omega)]
      exact vlF_gt r (i + 1) j (by omega) (by omega) (fun k hk => h3 k (by omega)) h4
theorem vlF_end {X Y : Nat → Int} {x : Int} : ∀ (r i : Nat), (∀ k, i ≤ k → k < i + r → X (k + 1) < x) → vlF X Y x r i = (Y (i + r) : Rat)
  | 0, i, _ => by simp [vlF]
  | r + 1, i, h => by
    unfold vlF
    rw [if_neg (by have := h i (by omega) (by omega); omega), vlF_end r (i + 1) (fun k hk hk2 => h k (by omega) (by omega))]
    rw [show i + 1 + r = i + (r + 1) by omega]

theorem vl_lo {n : Nat} {X Y : Nat → Int} {x : Int} (h : x ≤ X 0) : vl n X Y x = (Y 0 : Rat) := by unfold vl; rw [if_pos h]
theorem vl_in {n : Nat} {X Y : Nat → Int} (c : Crv n X Y) {x : Int} {i : Nat} (hi : i + 1 < n) (h0 : X i < x) (h1 : x ≤ X (i + 1)) : vl n X Y x = sg X Y i x := by
  unfold vl
  have := c.leX (i := 0) (j := i) (by omega) (by omega)
  rw [if_neg (by omega)]
  exact vlF_gt (n - 1) 0 i (by omega) (by omega) (fun k _ hk => by have := c.leX (i := k + 1) (j := i) (by omega) (by omega); omega) h1
theorem vl_pt {n : Nat} {X Y : Nat → Int} (c : Crv n X Y) {i : Nat} (hi : i < n) : vl n X Y (X i) = (Y i : Rat) := by
  by_cases h : i = 0
  · subst h; exact vl_lo (Int.le_refl _)
  · obtain ⟨k, rfl⟩ : ∃ k, i = k + 1 := ⟨i - 1, by omega⟩
    rw [vl_in c hi (c.mX k hi) (Int.le_refl _), sg_hi (c.mX k hi)]
theorem vl_seg {n : Nat} {X Y : Nat → Int} (c : Crv n X Y) {x : Int} {i : Nat} (hi : i + 1 < n) (h0 : X i ≤ x) (h1 : x ≤ X (i + 1)) : vl n X Y x = sg X Y i x := by
  by_cases h : x = X i
  · subst h; rw [vl_pt c (by omega), sg_lo]
  · exact vl_in c hi (by omega) h1
theorem vl_hi {n : Nat} {X Y : Nat → Int} (c : Crv n X Y) {x : Int} (h : X (n - 1) ≤ x) : vl n X Y x = (Y (n - 1) : Rat) := by
  have h2 := c.two
  by_cases he : x = X (n - 1)
  · subst he; exact vl_pt c (by omega)
  · unfold vl
    have := c.leX (i := 0) (j := n - 1) (by omega) (by omega)
    rw [if_neg (by omega), vlF_end (n - 1) 0 (fun k _ hk => by have := c.leX (i := k + 1) (j := n - 1) (by omega) (by omega); omega)]
    rw [Nat.zero_add]

/-- A place within the points lies between two neighbours. -/
theorem between {n : Nat} {X : Nat → Int} {x : Int} : ∀ (r : Nat), r < n → X 0 ≤ x → x < X r → ∃ i, i + 1 < n ∧ X i ≤ x ∧ x < X (i + 1)
  | 0, _, h0, h1 => by omega
  | r + 1, hn, h0, h1 => by
    by_cases h : x < X r
    · exact between r (by omega) h0 h
    · exact ⟨r, hn, by omega, h1⟩

/-- One step: the slope there. -/
def slp (X Y : Nat → Int) (i : Nat) : Rat := ((Y (i + 1) - Y i : Int) : Rat) / ((X (i + 1) - X i : Int) : Rat)
theorem sg_step (X Y : Nat → Int) (i : Nat) (x : Int) : sg X Y i (x + 1) = sg X Y i x + slp X Y i := by
  unfold sg slp
  have e : ((x + 1 - X i : Int) : Rat) = ((x - X i : Int) : Rat) + 1 := by simp; grind
  rw [e, Rat.mul_add, Rat.mul_one]
  simp only [Rat.div_def, Rat.add_mul]
  grind
theorem slp_nn {n : Nat} {X Y : Nat → Int} (c : Crv n X Y) {i : Nat} (hi : i + 1 < n) : 0 ≤ slp X Y i := by
  have h1 := c.mX i hi
  have h2 := c.mY i hi
  have hd := cps (show 0 < X (i + 1) - X i by omega)
  have hw := cnn (show 0 ≤ Y (i + 1) - Y i by omega)
  unfold slp
  refine le_of_mul hd ?_
  rw [Rat.div_mul_cancel (by grind)]
  simpa using hw
theorem vl_step {n : Nat} {X Y : Nat → Int} (c : Crv n X Y) (x : Int) :
    (vl n X Y (x + 1) = vl n X Y x ∧ (x < X 0 ∨ X (n - 1) ≤ x)) ∨ ∃ i, i + 1 < n ∧ X i ≤ x ∧ x < X (i + 1) ∧ vl n X Y (x + 1) = vl n X Y x + slp X Y i := by
  by_cases h0 : x < X 0
  · left; exact ⟨by rw [vl_lo (by omega), vl_lo (by omega)], .inl h0⟩
  · by_cases h1 : X (n - 1) ≤ x
    · left; exact ⟨by rw [vl_hi c (by omega), vl_hi c h1], .inr h1⟩
    · right
      have h2 := c.two
      obtain ⟨i, hi, a, b⟩ := between (n := n) (X := X) (x := x) (n - 1) (by omega) (by omega) (by omega)
      exact ⟨i, hi, a, b, by rw [vl_seg c hi a (by omega), vl_seg c hi (x := x + 1) (by omega) (by omega), sg_step]⟩
theorem vl_mono1 {n : Nat} {X Y : Nat → Int} (c : Crv n X Y) (x : Int) : vl n X Y x ≤ vl n X Y (x + 1) := by
  rcases vl_step c x with ⟨h, _⟩ | ⟨i, hi, _, _, h⟩
  · rw [h]; exact Rat.le_refl
  · rw [h]; have := slp_nn c hi; grind
theorem vl_monoN {n : Nat} {X Y : Nat → Int} (c : Crv n X Y) (x : Int) : ∀ k : Nat, vl n X Y x ≤ vl n X Y (x + k)
  | 0 => by simp
  | k + 1 => by
    have h1 := vl_monoN c x k
    have h2 := vl_mono1 c (x + k)
    rw [show x + ((k + 1 : Nat) : Int) = x + k + 1 by omega]
    exact Rat.le_trans h1 h2
theorem vl_mono {n : Nat} {X Y : Nat → Int} (c : Crv n X Y) {x y : Int} (h : x ≤ y) : vl n X Y x ≤ vl n X Y y := by
  have := vl_monoN c x (y - x).toNat
  rwa [show x + ((y - x).toNat : Int) = y by omega] at this

/-- The value at x, truncated. -/
def atv (n : Nat) (X Y : Nat → Int) (x : Int) : Int := tru (vl n X Y x)
theorem atv_mono {n : Nat} {X Y : Nat → Int} (c : Crv n X Y) {x y : Int} (h : x ≤ y) : atv n X Y x ≤ atv n X Y y := tru_mono (vl_mono c h)
theorem atv_lo {n : Nat} {X Y : Nat → Int} {x : Int} (h : x ≤ X 0) : atv n X Y x = Y 0 := by unfold atv; rw [vl_lo h, tru_int]
theorem atv_hi {n : Nat} {X Y : Nat → Int} (c : Crv n X Y) {x : Int} (h : X (n - 1) ≤ x) : atv n X Y x = Y (n - 1) := by unfold atv; rw [vl_hi c h, tru_int]
theorem atv_pt {n : Nat} {X Y : Nat → Int} (c : Crv n X Y) {i : Nat} (hi : i < n) : atv n X Y (X i) = Y i := by unfold atv; rw [vl_pt c hi, tru_int]
theorem atv_bd {n : Nat} {X Y : Nat → Int} (c : Crv n X Y) (x : Int) : Y 0 ≤ atv n X Y x ∧ atv n X Y x ≤ Y (n - 1) := by
  have h2 := c.two
  have l : atv n X Y (X 0) = Y 0 := atv_lo (Int.le_refl _)
  have r : atv n X Y (X (n - 1)) = Y (n - 1) := atv_hi c (Int.le_refl _)
  have o := c.leX (i := 0) (j := n - 1) (by omega) (by omega)
  constructor
  · by_cases h : x ≤ X 0
    · rw [atv_lo h]; exact Int.le_refl _
    · have := atv_mono c (x := X 0) (y := x) (by omega); omega
  · by_cases h : X (n - 1) ≤ x
    · rw [atv_hi c h]; exact Int.le_refl _
    · have := atv_mono c (x := x) (y := X (n - 1)) (by omega); omega

/-- A fraction is the value at x. -/
structure IsVal (n : Nat) (X Y : Nat → Int) (x num den : Int) : Prop where
  pos : 0 < den
  le : den ≤ 2147483648
  lo : -2305843009213693952 ≤ num
  hi : num ≤ 2305843009213693952
  eq : vl n X Y x * (den : Rat) = (num : Rat)
theorem IsVal.tru {n : Nat} {X Y : Nat → Int} {x num den : Int} (h : IsVal n X Y x num den) : num.tdiv den = atv n X Y x := tru_div h.pos h.eq
theorem mul_bd {a b : Int} {A B : Int} (h1 : -A ≤ a) (h2 : a ≤ A) (h3 : 0 ≤ b) (h4 : b ≤ B) : -(A * B) ≤ a * b ∧ a * b ≤ A * B := by
  have hA : 0 ≤ A := by omega
  have e1 : a * b ≤ A * b := Int.mul_le_mul_of_nonneg_right h2 h3
  have e2 : A * b ≤ A * B := Int.mul_le_mul_of_nonneg_left h4 hA
  have e3 : (-A) * b ≤ a * b := Int.mul_le_mul_of_nonneg_right h1 h3
  rw [Int.neg_mul] at e3
  omega
theorem isval_whole {n : Nat} {X Y : Nat → Int} {x y : Int} (h : vl n X Y x = (y : Rat)) (hy : -1073741824 ≤ y ∧ y ≤ 1073741824) : IsVal n X Y x y 1 :=
  ⟨by omega, by omega, by omega, by omega, by rw [h]; simp⟩
theorem isval_seg {n : Nat} {X Y : Nat → Int} (c : Crv n X Y) {x : Int} {i : Nat} (hi : i + 1 < n) (h0 : X i ≤ x) (h1 : x ≤ X (i + 1)) :
    IsVal n X Y x (Y i * (X (i + 1) - x) + Y (i + 1) * (x - X i)) (X (i + 1) - X i) := by
  have hm := c.mX i hi
  obtain ⟨a1, a2⟩ := c.bX i (by omega)
  obtain ⟨b1, b2⟩ := c.bX (i + 1) hi
  obtain ⟨c1, c2⟩ := c.bY i (by omega)
  obtain ⟨d1, d2⟩ := c.bY (i + 1) hi
  have e : Y i * (X (i + 1) - x) + Y (i + 1) * (x - X i) = Y i * (X (i + 1) - X i) + (Y (i + 1) - Y i) * (x - X i) := by grind
  have l1 := mul_bd (a := Y i) (b := X (i + 1) - x) (A := 1073741824) (B := X (i + 1) - x) (by omega) (by omega) (by omega) (by omega)
  have l2 := mul_bd (a := Y (i + 1)) (b := x - X i) (A := 1073741824) (B := x - X i) (by omega) (by omega) (by omega) (by omega)
  generalize Y i * (X (i + 1) - x) = p at *
  generalize Y (i + 1) * (x - X i) = q at *
  refine ⟨by omega, by omega, by omega, by omega, ?_⟩
  rw [vl_seg c hi h0 h1, sg_mul hm, e]
end Go.Proofs.Ytdcollchhcjaaaa
