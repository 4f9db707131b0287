/- The exact sine by its power series: the plain mathematics. -/
import Derived.Test.YtphhbakadfjiiaaDoorSina
namespace Go.Proofs.YtphhbakadfjiiaaDoor
open Go.RowKit

def exX (a : Int) : Int := a * 3373259426 / 32768
def exT (x t n : Int) : Int := ((-(t * x / 1073741824)).tdiv (n + 1) * x / 1073741824).tdiv (n + 2)
def exR : Nat → Int → Int → Int → Int → Int × Int
  | 0, _, s, t, _ => (s, t)
  | j + 1, x, s, t, n => exR j x (s + t) (exT x t n) (n + 2)
/-- Sum and term after j rounds. -/
def exJ (x : Int) : Nat → Int × Int
  | 0 => (0, x)
  | j + 1 => ((exJ x j).1 + (exJ x j).2, exT x (exJ x j).2 (2 * j + 1))
theorem exR_of (x : Int) : ∀ (j m : Nat), exR j x (exJ x m).1 (exJ x m).2 (2 * m + 1) = exJ x (m + j)
  | 0, m => rfl
  | j + 1, m => by
    show exR j x ((exJ x m).1 + (exJ x m).2) (exT x (exJ x m).2 (2 * m + 1)) (2 * m + 1 + 2) = _
    have := exR_of x j (m + 1)
    rw [show m + (j + 1) = m + 1 + j by omega, ← this]
    rw [show (2 * (m : Int) + 1 + 2) = 2 * ((m + 1 : Nat) : Int) + 1 by omega]
    rfl
def exB (a : Nat) : Bool :=
  let r := exR 8 (exX a) 0 (exX a) 1
  r.2 == 0 && decide (-4096 < r.1 - (qn a : Int) * 32768) && decide (r.1 - (qn a : Int) * 32768 < 163840)
set_option maxHeartbeats 4000000 in
theorem ex_tab0 : ∀ k < 8, ∀ f < 256, exB (256 * (k + 0) + f) = true := by decide +kernel
set_option maxHeartbeats 4000000 in
theorem ex_tab1 : ∀ k < 8, ∀ f < 256, exB (256 * (k + 8) + f) = true := by decide +kernel
set_option maxHeartbeats 4000000 in
theorem ex_tab2 : ∀ k < 8, ∀ f < 256, exB (256 * (k + 16) + f) = true := by decide +kernel
set_option maxHeartbeats 4000000 in
theorem ex_tab3 : ∀ k < 8, ∀ f < 256, exB (256 * (k + 24) + f) = true := by decide +kernel
set_option maxHeartbeats 4000000 in
theorem ex_tab4 : ∀ k < 8, ∀ f < 256, exB (256 * (k + 32) + f) = true := by decide +kernel
set_option maxHeartbeats 4000000 in
theorem ex_tab5 : ∀ k < 8, ∀ f < 256, exB (256 * (k + 40) + f) = true := by decide +kernel
set_option maxHeartbeats 4000000 in
theorem ex_tab6 : ∀ k < 8, ∀ f < 256, exB (256 * (k + 48) + f) = true := by decide +kernel
set_option maxHeartbeats 4000000 in
theorem ex_tab7 : ∀ k < 8, ∀ f < 256, exB (256 * (k + 56) + f) = true := by decide +kernel
theorem ex_tab8 : exB 16384 = true := by decide +kernel
theorem ex_tab (a : Nat) (h : a ≤ 16384) : exB a = true := by
  by_cases h0 : a < 2048
  · have := ex_tab0 (a / 256 - 0) (by omega) (a % 256) (by omega)
    rwa [show 256 * (a / 256 - 0 + 0) + a % 256 = a by omega] at this
  by_cases h1 : a < 4096
  · have := ex_tab1 (a / 256 - 8) (by omega) (a % 256) (by omega)
    rwa [show 256 * (a / 256 - 8 + 8) + a % 256 = a by omega] at this
  by_cases h2 : a < 6144
  · have := ex_tab2 (a / 256 - 16) (by omega) (a % 256) (by omega)
    rwa [show 256 * (a / 256 - 16 + 16) + a % 256 = a by omega] at this
  by_cases h3 : a < 8192
  · have := ex_tab3 (a / 256 - 24) (by omega) (a % 256) (by omega)
    rwa [show 256 * (a / 256 - 24 + 24) + a % 256 = a by omega] at this
  by_cases h4 : a < 10240
  · have := ex_tab4 (a / 256 - 32) (by omega) (a % 256) (by omega)
    rwa [show 256 * (a / 256 - 32 + 32) + a % 256 = a by omega] at this
  by_cases h5 : a < 12288
  · have := ex_tab5 (a / 256 - 40) (by omega) (a % 256) (by omega)
    rwa [show 256 * (a / 256 - 40 + 40) + a % 256 = a by omega] at this
  by_cases h6 : a < 14336
  · have := ex_tab6 (a / 256 - 48) (by omega) (a % 256) (by omega)
    rwa [show 256 * (a / 256 - 48 + 48) + a % 256 = a by omega] at this
  by_cases h7 : a < 16384
  · have := ex_tab7 (a / 256 - 56) (by omega) (a % 256) (by omega)
    rwa [show 256 * (a / 256 - 56 + 56) + a % 256 = a by omega] at this
  rw [show a = 16384 by omega]; exact ex_tab8
theorem ex_fact {a : Int} (h0 : 0 ≤ a) (h1 : a ≤ 16384) : (exJ (exX a) 8).2 = 0 ∧ -4096 < (exJ (exX a) 8).1 - qs a * 32768 ∧ (exJ (exX a) 8).1 - qs a * 32768 < 163840 := by
  have := ex_tab a.toNat (by omega)
  unfold exB at this
  rw [show ((a.toNat : Nat) : Int) = a by omega] at this
  have e := exR_of (exX a) 8 0
  rw [show exR 8 (exX a) (exJ (exX a) 0).1 (exJ (exX a) 0).2 (2 * ((0 : Nat) : Int) + 1) = exR 8 (exX a) 0 (exX a) 1 from rfl, show 0 + 8 = 8 from rfl] at e
  rw [e] at this
  simp only [Bool.and_eq_true, decide_eq_true_eq, beq_iff_eq] at this
  obtain ⟨⟨t1, t2⟩, t3⟩ := this
  exact ⟨t1, t2, t3⟩
theorem exX_bd {a : Int} (h0 : 0 ≤ a) (h1 : a ≤ 16384) : 0 ≤ exX a ∧ exX a ≤ 2147483648 := by unfold exX; omega
theorem half_bd {t x : Int} (ht : -2147483648 ≤ t ∧ t ≤ 2147483648) (hx : 0 ≤ x ∧ x ≤ 2147483648) : -4611686018427387904 ≤ t * x ∧ t * x ≤ 4611686018427387904 := by
  have h : (t * x).natAbs ≤ 2147483648 * 2147483648 := by rw [Int.natAbs_mul]; exact Nat.mul_le_mul (by omega) (by omega)
  omega
theorem tdiv_lim {x d b : Int} (hd : 2 ≤ d) (hb : 0 ≤ b) (hx : -(2 * b) ≤ x ∧ x ≤ 2 * b) : -b ≤ x.tdiv d ∧ x.tdiv d ≤ b := by
  have key : ∀ E : Int, 0 ≤ E → E ≤ 2 * b → 0 ≤ E.tdiv d ∧ E.tdiv d ≤ b := fun E h h2 => by
    rw [Int.tdiv_eq_ediv_of_nonneg h]
    refine ⟨Int.ediv_nonneg h (by omega), Int.ediv_le_of_le_mul (by omega) ?_⟩
    have := Int.mul_le_mul_of_nonneg_left hd hb
    omega
  by_cases h : 0 ≤ x
  · have := key x h hx.2; omega
  · have := key (-x) (by omega) (by omega); rw [Int.neg_tdiv] at this; omega
theorem exT_bd {x t n : Int} (ht : -2147483648 ≤ t ∧ t ≤ 2147483648) (hx : 0 ≤ x ∧ x ≤ 2147483648) (hn : 1 ≤ n) :
    (-4611686018427387904 ≤ t * x ∧ t * x ≤ 4611686018427387904) ∧ (-2147483648 ≤ (-(t * x / 1073741824)).tdiv (n + 1) ∧ (-(t * x / 1073741824)).tdiv (n + 1) ≤ 2147483648) ∧
    (-4611686018427387904 ≤ (-(t * x / 1073741824)).tdiv (n + 1) * x ∧ (-(t * x / 1073741824)).tdiv (n + 1) * x ≤ 4611686018427387904) ∧ -2147483648 ≤ exT x t n ∧ exT x t n ≤ 2147483648 := by
  have a := half_bd ht hx
  have b := tdiv_lim (x := -(t * x / 1073741824)) (d := n + 1) (b := 2147483648) (by omega) (by omega) (by omega)
  have c := half_bd b hx
  have d := tdiv_lim (x := (-(t * x / 1073741824)).tdiv (n + 1) * x / 1073741824) (d := n + 2) (b := 2147483648) (by omega) (by omega) (by omega)
  exact ⟨a, b, c, d⟩
theorem exJ_bd {x : Int} (hx : 0 ≤ x ∧ x ≤ 2147483648) (j : Nat) : (-2147483648 ≤ (exJ x j).2 ∧ (exJ x j).2 ≤ 2147483648) ∧ -(2147483648 * j) ≤ (exJ x j).1 ∧ (exJ x j).1 ≤ 2147483648 * j := by
  induction j with
  | zero => unfold exJ; omega
  | succ j ih =>
    have b := (exT_bd (n := 2 * j + 1) ih.1 hx (by omega)).2.2.2
    obtain ⟨i1, i2, i3⟩ := ih
    have e : exJ x (j + 1) = ((exJ x j).1 + (exJ x j).2, exT x (exJ x j).2 (2 * j + 1)) := rfl
    rw [e]
    refine ⟨b, ?_, ?_⟩
    · show _ ≤ (exJ x j).1 + (exJ x j).2; omega
    · show (exJ x j).1 + (exJ x j).2 ≤ _; omega
/-- Once the term is 0 it stays 0, and the sum stays. -/
theorem exJ_stay (x : Int) {j : Nat} (h : (exJ x j).2 = 0) (i : Nat) : exJ x (j + i) = ((exJ x j).1, 0) := by
  induction i with
  | zero => rw [Nat.add_zero, ← h]
  | succ i ih =>
    have e : exJ x (j + i + 1) = ((exJ x (j + i)).1 + (exJ x (j + i)).2, exT x (exJ x (j + i)).2 (2 * ((j + i : Nat) : Int) + 1)) := rfl
    rw [show j + (i + 1) = j + i + 1 by omega, e, ih]
    simp [exT]
/-- The exact sine, by the series. -/
def exS (a : Int) : Int := (exJ (exX a) 8).1
end Go.Proofs.YtphhbakadfjiiaaDoor
