/- Programs of diagrams: raw values, cells, instructions (off any program). -/
import Derived.Test.YtkocmdpfknoiaaaGreatDoorKda
namespace Go.Proofs.YtkocmdpfknoiaaaGreatDoor

/-- The code's shift: to the left by at most 32. -/
def shX (n k : Int) : Int := if k < 0 then n / 2 ^ (-k).toNat else n * 2 ^ k.toNat
/-- The raw value of n * 2^e with the scale f. -/
def rawV (n e f : Int) : Int := shI n (e + f)
def rawB (n e f : Int) : Bool := decide (-2147483648 < n) && (decide (n < 2147483648) && (decide (-62 ≤ e) && (decide (e ≤ 30) && (decide (0 ≤ f) && decide (f ≤ 30)))))
theorem rawB_iff {n e f : Int} : rawB n e f = true ↔ -2147483648 < n ∧ n < 2147483648 ∧ -62 ≤ e ∧ e ≤ 30 ∧ 0 ≤ f ∧ f ≤ 30 := by simp [rawB]
def rawE (n e f : Int) : Int := if rawB n e f = false then 3 else if wdB (rawV n e f) = true then 0 else 13
def rawN (n e f : Int) : Int := if rawE n e f = 0 then rawV n e f else 0
theorem shI_bd {n k : Int} (h1 : -2147483648 < n) (h2 : n < 2147483648) (hk : k ≤ 32) : -9223372036854775808 ≤ shI n k ∧ shI n k ≤ 9223372036854775807 := by
  unfold shI
  split
  · have := div_bd (x := n) (B := 2147483648) (pow_pos (-k).toNat) (by omega) (by omega) (by omega)
    omega
  · have hp : (2 : Int) ^ k.toNat ≤ 4294967296 := by
      have := pow_le (j := k.toNat) (k := 32) (by omega); simpa using this
    have := mul_bd (x := n) (B := 2147483647) (by omega) (by omega) (show (0 : Int) ≤ 2 ^ k.toNat by have := pow_pos k.toNat; omega) hp (by omega)
    omega
theorem shI_far {n k : Int} (hk : 32 ≤ k) : (shI n 32 = 0 ∧ shI n k = 0) ∨ (wdB (shI n 32) = false ∧ wdB (shI n k) = false) := by
  have e1 : shI n 32 = n * 4294967296 := by unfold shI; rw [if_neg (by omega)]; rfl
  have e2 : shI n k = n * 2 ^ k.toNat := by unfold shI; rw [if_neg (by omega)]
  have hp : (4294967296 : Int) ≤ 2 ^ k.toNat := by
    have := pow_le (j := 32) (k := k.toNat) (by omega); simpa using this
  rw [e1, e2]
  rcases Int.lt_trichotomy n 0 with h | h | h
  · refine .inr ?_
    have h3 : (-n) * 4294967296 ≤ (-n) * 2 ^ k.toNat := Int.mul_le_mul_of_nonneg_left hp (by omega)
    rw [Int.neg_mul, Int.neg_mul] at h3
    generalize n * 2 ^ k.toNat = y at *
    constructor <;> (cases q : wdB _ with | false => rfl | true => have := wdB_iff.1 q; omega)
  · subst h; exact .inl ⟨by omega, by simp⟩
  · refine .inr ?_
    have h3 : n * 4294967296 ≤ n * 2 ^ k.toNat := Int.mul_le_mul_of_nonneg_left hp (by omega)
    generalize n * 2 ^ k.toNat = y at *
    constructor <;> (cases q : wdB _ with | false => rfl | true => have := wdB_iff.1 q; omega)
/-- What the code computes, and what is asked. -/
theorem shI_min (n k : Int) : wdB (shI n (min k 32)) = wdB (shI n k) ∧ (wdB (shI n k) = true → shI n (min k 32) = shI n k) := by
  by_cases h : k ≤ 32
  · rw [Int.min_eq_left h]; exact ⟨rfl, fun _ => rfl⟩
  · rw [Int.min_eq_right (by omega)]
    rcases shI_far (n := n) (k := k) (by omega) with ⟨a, b⟩ | ⟨a, b⟩
    · rw [a, b]; exact ⟨rfl, fun _ => rfl⟩
    · rw [a, b]; exact ⟨rfl, fun q => by cases q⟩

/-! ### What is kept of a block -/
def kpN (k : Int) : Nat := if k = 1 ∨ k = 2 then 1 else if k = 11 then 2 else 0
def kpM (b : Blk) (j : Nat) : Int := if j = 0 then b.vn else b.un
def kpX (b : Blk) (j : Nat) : Int := if j = 0 then b.ve else b.ue
def rwE (b : Blk) (f : Int) (j : Nat) : Int := rawE (kpM b j) (kpX b j) f
def rwV (b : Blk) (f : Int) (j : Nat) : Int := rawN (kpM b j) (kpX b j) f
def bkR (b : Blk) (f : Int) : Int := fstE (kpN b.k) (rwE b f)
/-- The first error of the raw values. -/
def rwsE (D : Dia) (F : Nat → Int) : Int := fstE D.nb (fun i => bkR (D.B i) (F i))
def scB (f : Int) : Bool := decide (0 ≤ f) && decide (f ≤ 30)
theorem scB_iff {f : Int} : scB f = true ↔ 0 ≤ f ∧ f ≤ 30 := by simp [scB]

/-! ### The program -/
def isC (D : Dia) (i : Nat) : Bool := (D.B i).k == 11
def clpL (D : Dia) : List Nat := mkL D.nb (isC D)
def ndl (D : Dia) : Nat := (delL D).length
def ncl (D : Dia) : Nat := (clpL D).length
/-- The k-th delay, and the k-th clip. -/
def dlA (D : Dia) (k : Nat) : Nat := (delL D).getD k 0
def clA (D : Dia) (k : Nat) : Nat := (clpL D).getD k 0
/-- The first cell of the bounds of a clip. -/
def bnC (D : Dia) (i : Nat) : Nat := D.nb + ndl D + 2 * cnt i (isC D)
def ceX (D : Dia) (F : Nat → Int) (i : Nat) : Int :=
  if i < D.nb then (if isD D i = true then rwV (D.B i) (F i) 0 else 0) else if i < D.nb + ndl D then 0 else
    rwV (D.B (clA D ((i - D.nb - ndl D) / 2))) (F (clA D ((i - D.nb - ndl D) / 2))) ((i - D.nb - ndl D) % 2)
/-- The first instruction of a block. -/
def fiX (D : Dia) (F : Nat → Int) (i : Nat) : Ins :=
  let b := D.B i
  let a0 := (b.a 0).toNat
  let a1 := (b.a 1).toNat
  if b.k = 0 then ⟨0, i, b.a 0, 0, F i - (D.P a0).fr, 0, 0⟩ else
  if b.k = 1 then ⟨1, i, 0, 0, 0, 0, rwV b (F i) 0⟩ else
  if b.k = 6 then ⟨6, i, b.a 0, 0, F i - F a0 + b.ve, 0, b.vn⟩ else
  if b.k = 7 then ⟨7, i, b.a 0, b.a 1, F i - F a0 - F a1, 0, 0⟩ else
  if b.k = 11 then ⟨9, i, b.a 0, bnC D i, F i - F a0, 0, 0⟩ else
  if b.k = 3 ∨ b.k = 4 ∨ b.k = 8 ∨ b.k = 9 then ⟨b.k, i, b.a 0, b.a 1, F i - F a0, F i - F a1, 0⟩ else
  ⟨b.k, i, b.a 0, 0, F i - F a0, 0, 0⟩
/-- The second one of a clip. -/
def clX (D : Dia) (i : Nat) : Ins := ⟨8, i, i, bnC D i + 1, 0, 0, 0⟩
def bkX (D : Dia) (F : Nat → Int) (i : Nat) : List Ins := if isC D i = true then [fiX D F i, clX D i] else [fiX D F i]
def m1X (D : Dia) (F : Nat → Int) (k : Nat) : Ins := { fiX D F (dlA D k) with dst := D.nb + k }
def m2X (D : Dia) (k : Nat) : Ins := ⟨2, dlA D k, D.nb + k, 0, 0, 0, 0⟩
def fmL {α : Type} (f : Nat → List α) : Nat → List α
  | 0 => []
  | n + 1 => fmL f n ++ f n
/-- The code of the first n of the blocks in order; of the first n delays. -/
def oxL (D : Dia) (F : Nat → Int) (n : Nat) : List Ins := fmL (fun j => bkX D F ((ordL D).getD j 0)) n
def m1L (D : Dia) (F : Nat → Int) (n : Nat) : List Ins := fmL (fun k => [m1X D F k]) n
def m2L (D : Dia) (n : Nat) : List Ins := fmL (fun k => [m2X D k]) n
def cdL (D : Dia) (F : Nat → Int) : List Ins := oxL D F (ordL D).length ++ m1L D F (ndl D) ++ m2L D (ndl D)
def ins0 : Ins := ⟨0, 0, 0, 0, 0, 0, 0⟩
def cdX (D : Dia) (F : Nat → Int) (i : Nat) : Ins := (cdL D F).getD i ins0
def cdN (D : Dia) (F : Nat → Int) : Nat := (cdL D F).length
def prD (D : Dia) (F : Nat → Int) : Pgm where
  np := D.ni
  P := D.P
  nc := D.nb + ndl D + 2 * ncl D
  C := ceX D F
  ni := cdN D F
  X := cdX D F
  no := D.no
  O := D.O
def shE (x : Ins) : Bool := shB x.sa && shB x.sb
/-- The first error of Compile with m scales. -/
def cmE (D : Dia) (m : Nat) (F : Nat → Int) : Int :=
  if chk D ≠ 0 then chk D else if m ≠ D.nb then 11 else if allN m (fun i => scB (F i)) = false then 3 else
  if rwsE D F ≠ 0 then rwsE D F else if allN (cdN D F) (fun i => shE (cdX D F i)) = false then 3 else 0
theorem fmL_len1 {α : Type} {f : Nat → α} (n : Nat) : (fmL (fun k => [f k]) n).length = n := by
  induction n with
  | zero => rfl
  | succ n ih => show (fmL _ n ++ [_]).length = _; rw [List.length_append, ih]; rfl
theorem ndl_eq (D : Dia) : ndl D = cnt D.nb (isD D) := mkL_len _ _
theorem ncl_eq (D : Dia) : ncl D = cnt D.nb (isC D) := mkL_len _ _
theorem cnt_two {n : Nat} {p q : Nat → Bool} (h : ∀ i, i < n → p i = true → q i = false) : cnt n p + cnt n q ≤ n := by
  induction n with
  | zero => exact Nat.le_refl _
  | succ n ih =>
    have := ih fun i hi => h i (by omega)
    show (cnt n p + if p n = true then 1 else 0) + (cnt n q + if q n = true then 1 else 0) ≤ n + 1
    have h1 := h n (by omega)
    by_cases hp : p n = true
    · rw [if_pos hp, if_neg (by rw [h1 hp]; decide)]; omega
    · rw [if_neg hp]; split <;> omega
theorem ndc_le (D : Dia) : ndl D + ncl D ≤ D.nb := by
  rw [ndl_eq, ncl_eq]
  refine cnt_two fun i _ h => ?_
  have h1 : (D.B i).k = 2 := by simpa [isD] using h
  simp [isC, h1]
end Go.Proofs.YtkocmdpfknoiaaaGreatDoor
