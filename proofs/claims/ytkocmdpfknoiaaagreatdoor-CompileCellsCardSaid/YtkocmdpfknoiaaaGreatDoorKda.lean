/- The fixed-point machine: programs, what is wrong with one, what a run leaves (off any program). -/
import Derived.Test.YtkocmdpfknoiaaaGreatDoorDgab
namespace Go.Proofs.YtkocmdpfknoiaaaGreatDoor

structure Ins where
  op : Int
  dst : Int
  a : Int
  b : Int
  sa : Int
  sb : Int
  im : Int
structure Pgm where
  np : Nat
  P : Nat → Prt
  nc : Nat
  C : Nat → Int
  ni : Nat
  X : Nat → Ins
  no : Nat
  O : Nat → Int

/-- The fields that an operation uses. -/
def isO (k : Int) : Bool := decide (0 ≤ k ∧ k ≤ 10)
def usA (k : Int) : Bool := decide (0 ≤ k ∧ k ≤ 10 ∧ k ≠ 1)
def usB (k : Int) : Bool := decide (k = 3 ∨ k = 4 ∨ k = 7 ∨ k = 8 ∨ k = 9)
def usT (k : Int) : Bool := decide (k = 3 ∨ k = 4 ∨ k = 8 ∨ k = 9)
def usI (k : Int) : Bool := decide (k = 1 ∨ k = 6)
def ixB (c i : Int) : Bool := decide (0 ≤ i) && decide (i < c)
def wdB (x : Int) : Bool := decide (-2147483648 ≤ x) && decide (x ≤ 2147483647)
def shB (k : Int) : Bool := decide (-62 ≤ k) && decide (k ≤ 30)
theorem ixB_iff {c i : Int} : ixB c i = true ↔ 0 ≤ i ∧ i < c := by simp [ixB]
theorem wdB_iff {x : Int} : wdB x = true ↔ -2147483648 ≤ x ∧ x ≤ 2147483647 := by simp [wdB]
theorem shB_iff {x : Int} : shB x = true ↔ -62 ≤ x ∧ x ≤ 30 := by simp [shB]
/-- How many things the field A of an operation may name. -/
def srcN (np nc : Nat) (k : Int) : Nat := if k = 0 then np else nc
def ixE (np nc : Nat) (x : Ins) : Bool := !ixB nc x.dst || (usA x.op && !ixB (srcN np nc x.op) x.a) || (usB x.op && !ixB nc x.b)
def rgE (x : Ins) : Bool := (usA x.op && !shB x.sa) || (usT x.op && !shB x.sb) || (usI x.op && !wdB x.im)
def fmE (x : Ins) : Bool := (!usA x.op && !(x.a == 0)) || (!usB x.op && !(x.b == 0)) || (!usA x.op && !(x.sa == 0)) || (!usT x.op && !(x.sb == 0)) || (!usI x.op && !(x.im == 0))
/-- What is wrong with an instruction. -/
def insE (np nc : Nat) (x : Ins) : Int := if isO x.op = false then 7 else if ixE np nc x = true then 10 else if rgE x = true then 3 else if fmE x = true then 2 else 0
/-- What is wrong with a list of words. -/
def wdE (n : Nat) (f : Nat → Int) : Int := fstE n (fun i => if wdB (f i) = true then 0 else 3)
/-- What is wrong with a program first. -/
def chP (G : Pgm) : Int :=
  if 16 < G.np ∨ 192 < G.nc ∨ 256 < G.ni ∨ 16 < G.no then 4 else
  if fstE G.np (fun i => prtE (G.P i)) ≠ 0 then 3 else
  if wdE G.nc G.C ≠ 0 then 3 else
  if fstE G.ni (fun i => insE G.np G.nc (G.X i)) ≠ 0 then fstE G.ni (fun i => insE G.np G.nc (G.X i)) else
  fstE G.no (fun i => inE G.nc (G.O i))
theorem wdE_cases (n : Nat) (f : Nat → Int) : (wdE n f = 0 ∧ ∀ i, i < n → wdB (f i) = true) ∨ (wdE n f = 3 ∧ ∃ j, j < n ∧ wdB (f j) = false ∧ ∀ i, i < j → wdB (f i) = true) := by
  rcases fstI_cases n (fun i => !wdB (f i)) with ⟨_, h⟩ | ⟨j, hj, _, hq, hl⟩
  · refine .inl ⟨fstE_none fun i hi => ?_, fun i hi => ?_⟩ <;> have := h i hi <;> simp at this <;> simp [this]
  · simp at hq
    refine .inr ⟨?_, j, hj, hq, fun i hi => ?_⟩
    · unfold wdE; rw [fstE_hit (j := j) (fun i hi => by have := hl i hi; simp at this; simp [this]) hj (by simp [hq])]; simp [hq]
    · have := hl i hi; simpa using this
theorem wdE_0 {n : Nat} {f : Nat → Int} : wdE n f = 0 ↔ ∀ i, i < n → wdB (f i) = true := by
  constructor
  · intro h; rcases wdE_cases n f with ⟨_, h2⟩ | ⟨h2, _⟩
    · exact h2
    · omega
  · intro h; exact fstE_none fun i hi => by rw [h i hi]; rfl
theorem wdE_3 {n : Nat} {f : Nat → Int} {j : Nat} (hj : j < n) (h : wdB (f j) = false) : wdE n f = 3 := by
  rcases wdE_cases n f with ⟨_, h2⟩ | ⟨h2, _⟩
  · rw [h2 j hj] at h; cases h
  · exact h2

/-- A program that can be run. -/
structure OkP (G : Pgm) : Prop where
  np : G.np ≤ 16
  nc : G.nc ≤ 192
  ni : G.ni ≤ 256
  no : G.no ≤ 16
  prt : ∀ i, i < G.np → prtE (G.P i) = 0
  wd : ∀ i, i < G.nc → wdB (G.C i) = true
  ins : ∀ i, i < G.ni → insE G.np G.nc (G.X i) = 0
  out : ∀ i, i < G.no → ixB G.nc (G.O i) = true
theorem inE_ix {c i : Int} : inE c i = 0 ↔ ixB c i = true := by
  unfold inE ixB; split <;> rename_i h
  · simp [h]
  · simp; omega
theorem chP_ok {G : Pgm} (h : chP G = 0) : OkP G := by
  unfold chP at h
  split at h
  · omega
  rename_i h0
  split at h
  · omega
  rename_i h1
  split at h
  · omega
  rename_i h2
  split at h
  · rename_i h3; exact absurd h h3
  rename_i h3
  exact ⟨by omega, by omega, by omega, by omega, fun i hi => fstE_zero (f := fun i => prtE (G.P i)) (by simpa using h1) i hi, fun i hi => wdE_0.1 (by simpa using h2) i hi,
    fun i hi => fstE_zero (f := fun i => insE G.np G.nc (G.X i)) (by simpa using h3) i hi, fun i hi => inE_ix.1 (fstE_zero (f := fun i => inE G.nc (G.O i)) h i hi)⟩
theorem chP_of {G : Pgm} (h : OkP G) : chP G = 0 := by
  unfold chP
  have := h.np; have := h.nc; have := h.ni; have := h.no
  rw [if_neg (by omega), if_neg (by rw [fstE_none h.prt]; simp), if_neg (by rw [wdE_0.2 h.wd]; simp), if_neg (by rw [fstE_none h.ins]; simp)]
  exact fstE_none fun i hi => inE_ix.2 (h.out i hi)

structure InsOk (np nc : Nat) (x : Ins) : Prop where
  op : 0 ≤ x.op ∧ x.op ≤ 10
  dst : 0 ≤ x.dst ∧ x.dst < nc
  a : x.op ≠ 1 → 0 ≤ x.a ∧ x.a < srcN np nc x.op
  b : usB x.op = true → 0 ≤ x.b ∧ x.b < nc
  sa : -62 ≤ x.sa ∧ x.sa ≤ 30
  sb : -62 ≤ x.sb ∧ x.sb ≤ 30
  im : -2147483648 ≤ x.im ∧ x.im ≤ 2147483647
theorem insE_ok {np nc : Nat} {x : Ins} (h : insE np nc x = 0) : InsOk np nc x := by
  unfold insE at h
  split at h
  · omega
  rename_i h0
  split at h
  · omega
  rename_i h1
  split at h
  · omega
  rename_i h2
  split at h
  · omega
  rename_i h3
  simp only [isO, decide_eq_false_iff_not, Classical.not_not] at h0
  simp only [ixE, Bool.or_eq_true, Bool.and_eq_true, Bool.not_eq_true', not_or, not_and, Bool.not_eq_false] at h1
  simp only [rgE, Bool.or_eq_true, Bool.and_eq_true, Bool.not_eq_true', not_or, not_and, Bool.not_eq_false] at h2
  simp only [fmE, Bool.or_eq_true, Bool.and_eq_true, Bool.not_eq_true', not_or, not_and, Bool.not_eq_false, beq_iff_eq] at h3
  obtain ⟨⟨i1, i2⟩, i3⟩ := h1
  obtain ⟨⟨r1, r2⟩, r3⟩ := h2
  obtain ⟨⟨⟨⟨f1, f2⟩, f3⟩, f4⟩, f5⟩ := h3
  refine ⟨h0, ixB_iff.1 i1, fun hk => ixB_iff.1 (i2 (by simp [usA, h0, hk])), fun hb => ixB_iff.1 (i3 hb), ?_, ?_, ?_⟩
  · cases hu : usA x.op with
    | true => exact shB_iff.1 (r1 hu)
    | false => rw [f3 hu]; omega
  · cases hu : usT x.op with
    | true => exact shB_iff.1 (r2 hu)
    | false => rw [f4 hu]; omega
  · cases hu : usI x.op with
    | true => exact wdB_iff.1 (r3 hu)
    | false => rw [f5 hu]; omega

/-- n, moved into its limits. -/
def kcl (n lo hi : Int) : Int := if n < lo then lo else if hi < n then hi else n
theorem kcl_bd (n lo hi : Int) (h : lo ≤ hi) : lo ≤ kcl n lo hi ∧ kcl n lo hi ≤ hi := by unfold kcl; split <;> (try split) <;> omega
theorem kcl_id {n lo hi : Int} (h : lo ≤ n) (h2 : n ≤ hi) : kcl n lo hi = n := by unfold kcl; rw [if_neg (by omega), if_neg (by omega)]
/-- The nearest 32-bit int. -/
def sat (n : Int) : Int := kcl n (-2147483648) 2147483647
theorem sat_wd (n : Int) : wdB (sat n) = true := wdB_iff.2 (kcl_bd _ _ _ (by omega))
/-- The code's shift, and the exact one. -/
def shC (x k : Int) : Int := if k < 0 then x / 2 ^ (-k).toNat else kcl x (-4294967296) 4294967296 * 2 ^ k.toNat
def shI (x k : Int) : Int := if k < 0 then x / 2 ^ (-k).toNat else x * 2 ^ k.toNat
theorem p30 {k : Int} (h2 : k ≤ 30) : (2 : Int) ^ k.toNat ≤ 1073741824 := by
  have := pow_le (j := k.toNat) (k := 30) (by omega); simpa using this
theorem div_bd {x p B : Int} (hp : 1 ≤ p) (h1 : -B ≤ x) (h2 : x ≤ B) (hB : 0 ≤ B) : -B ≤ x / p ∧ x / p ≤ B := by
  constructor
  · refine (Int.le_ediv_iff_mul_le (by omega)).2 ?_
    have := Int.mul_le_mul_of_nonneg_left hp hB
    have e : -B * p = -(B * p) := Int.neg_mul _ _
    rw [e]; omega
  · by_cases h : 0 ≤ x
    · exact Int.le_trans (Int.ediv_le_self _ h) h2
    · have : x / p < 0 := Int.ediv_neg_of_neg_of_pos (by omega) (by omega)
      omega
theorem mul_bd {x p B Q : Int} (h1 : -B ≤ x) (h2 : x ≤ B) (hp : 0 ≤ p) (hq : p ≤ Q) (hB : 0 ≤ B) : -(B * Q) ≤ x * p ∧ x * p ≤ B * Q := by
  have a := Int.mul_le_mul h2 hq hp hB
  have b := Int.mul_le_mul (show -x ≤ B by omega) hq hp hB
  rw [Int.neg_mul] at b
  omega
theorem shC_bd {x k : Int} (h1 : -4611686018427387904 ≤ x) (h2 : x ≤ 4611686018427387904) (h4 : k ≤ 30) : -4611686018427387904 ≤ shC x k ∧ shC x k ≤ 4611686018427387904 := by
  unfold shC
  split
  · exact div_bd (pow_pos _) h1 h2 (by omega)
  · have hc := kcl_bd x (-4294967296) 4294967296 (by omega)
    have := mul_bd hc.1 hc.2 (show (0 : Int) ≤ 2 ^ k.toNat by have := pow_pos k.toNat; omega) (p30 h4) (by omega)
    omega
theorem shC_wd {x k : Int} (h : wdB x = true) (h4 : k ≤ 30) : -2305843009213693952 ≤ shC x k ∧ shC x k ≤ 2305843009213693952 := by
  have hw := wdB_iff.1 h
  unfold shC
  split
  · have := div_bd (x := x) (B := 2147483648) (pow_pos (-k).toNat) (by omega) (by omega) (by omega)
    omega
  · rw [kcl_id (by omega) (by omega)]
    have := mul_bd (x := x) (B := 2147483648) (by omega) (by omega) (show (0 : Int) ≤ 2 ^ k.toNat by have := pow_pos k.toNat; omega) (p30 h4) (by omega)
    omega
/-- What an instruction's operation makes of its operands. -/
def opF (sh : Int → Int → Int) (x : Ins) (ia a b : Int) : Int :=
  if x.op = 0 then sh ia x.sa else if x.op = 2 then sh a x.sa else if x.op = 3 then sh a x.sa + sh b x.sb else if x.op = 4 then sh a x.sa - sh b x.sb else
  if x.op = 5 then -sh a x.sa else if x.op = 6 then sh (a * x.im) x.sa else if x.op = 7 then sh (a * b) x.sa else
  if x.op = 8 then min (sh a x.sa) (sh b x.sb) else if x.op = 9 then max (sh a x.sa) (sh b x.sb) else if x.op = 10 then max (sh a x.sa) (-sh a x.sa) else x.im
def reC (x : Ins) (c IN : Nat → Int) : Int := opF shC x (IN x.a.toNat) (c x.a.toNat) (c x.b.toNat)
/-- A run of n instructions: the cells behind it, and whether there was an overflow. -/
def runC (X : Nat → Ins) (IN : Nat → Int) (c : Nat → Int) : Nat → (Nat → Int) × Bool
  | 0 => (c, false)
  | n + 1 => let r := runC X IN c n; let e := reC (X n) r.1 IN; (fun i => if i = (X n).dst.toNat then sat e else r.1 i, r.2 || !(sat e == e))
theorem runC_step (X : Nat → Ins) (IN c : Nat → Int) (n : Nat) : runC X IN c (n + 1) = (fun i => if i = (X n).dst.toNat then sat (reC (X n) (runC X IN c n).1 IN) else (runC X IN c n).1 i, (runC X IN c n).2 || !(sat (reC (X n) (runC X IN c n).1 IN) == reC (X n) (runC X IN c n).1 IN)) := rfl
theorem runC_wd {X : Nat → Ins} {IN c : Nat → Int} {nc : Nat} (h : ∀ i, i < nc → wdB (c i) = true) (n : Nat) : ∀ i, i < nc → wdB ((runC X IN c n).1 i) = true := by
  induction n with
  | zero => exact h
  | succ n ih =>
    intro i hi
    rw [runC_step]
    show wdB (if _ then _ else _) = true
    split
    · exact sat_wd _
    · exact ih i hi
theorem runC_keep {X : Nat → Ins} {IN c : Nat → Int} {n i : Nat} (h : ∀ j, j < n → i ≠ (X j).dst.toNat) : (runC X IN c n).1 i = c i := by
  induction n with
  | zero => rfl
  | succ n ih =>
    rw [runC_step]
    show (if _ then _ else _) = _
    rw [if_neg (h n (by omega))]; exact ih fun j hj => h j (by omega)
theorem runC_join {X : Nat → Ins} {IN c : Nat → Int} (k n : Nat) : (runC X IN c (k + n)).1 = (runC (fun j => X (k + j)) IN (runC X IN c k).1 n).1 ∧ (runC X IN c (k + n)).2 = ((runC X IN c k).2 || (runC (fun j => X (k + j)) IN (runC X IN c k).1 n).2) := by
  induction n with
  | zero => exact ⟨rfl, by show _ = (_ || false); rw [Bool.or_false]; rfl⟩
  | succ n ih =>
    rw [← Nat.add_assoc, runC_step, runC_step (n := n), ih.1, ih.2]
    exact ⟨rfl, by simp only [Bool.or_assoc]⟩
theorem runC_congr {X Y : Nat → Ins} {IN c : Nat → Int} {n : Nat} (h : ∀ j, j < n → X j = Y j) : runC X IN c n = runC Y IN c n := by
  induction n with
  | zero => rfl
  | succ n ih => rw [runC_step, runC_step, ih fun j hj => h j (by omega), h n (by omega)]
/-- What is wrong with the cells and the inputs of a run. -/
def rnE (np : Nat) (P : Nat → Prt) (IN : Nat → Int) : Int := fstE np (fun i => if (P i).lo ≤ IN i ∧ IN i ≤ (P i).hi then 0 else 3)
def daE (G : Pgm) (n : Nat) (c : Nat → Int) (m : Nat) (IN : Nat → Int) : Int :=
  if n ≠ G.nc then 11 else if wdE n c ≠ 0 then 3 else if m ≠ G.np then 11 else rnE G.np G.P IN
theorem rnE_cases (np : Nat) (P : Nat → Prt) (IN : Nat → Int) : (rnE np P IN = 0 ∧ ∀ i, i < np → (P i).lo ≤ IN i ∧ IN i ≤ (P i).hi) ∨ rnE np P IN = 3 := by
  rcases fstI_cases np (fun i => !decide ((P i).lo ≤ IN i ∧ IN i ≤ (P i).hi)) with ⟨_, h⟩ | ⟨j, hj, _, hq, hl⟩
  · have h' : ∀ i, i < np → (P i).lo ≤ IN i ∧ IN i ≤ (P i).hi := fun i hi => by have := h i hi; simpa using this
    exact .inl ⟨fstE_none fun i hi => if_pos (h' i hi), h'⟩
  · refine .inr ?_
    have hq' : ¬ ((P j).lo ≤ IN j ∧ IN j ≤ (P j).hi) := fun hh => by simp [hh] at hq
    unfold rnE; rw [fstE_hit (j := j) (fun i hi => if_pos (by have := hl i hi; simpa using this)) hj (by rw [if_neg hq']; omega), if_neg hq']
theorem rnE_0 {np : Nat} {P : Nat → Prt} {IN : Nat → Int} : rnE np P IN = 0 ↔ ∀ i, i < np → (P i).lo ≤ IN i ∧ IN i ≤ (P i).hi := by
  constructor
  · intro h; rcases rnE_cases np P IN with ⟨_, h2⟩ | h2
    · exact h2
    · omega
  · intro h; exact fstE_none fun i hi => if_pos (h i hi)
theorem rnE_3 {np j : Nat} {P : Nat → Prt} {IN : Nat → Int} (hj : j < np) (h : ¬ ((P j).lo ≤ IN j ∧ IN j ≤ (P j).hi)) : rnE np P IN = 3 := by
  rcases rnE_cases np P IN with ⟨_, h2⟩ | h2
  · exact absurd (h2 j hj) h
  · exact h2
theorem daE_0 {G : Pgm} {n m : Nat} {c IN : Nat → Int} (h : daE G n c m IN = 0) : n = G.nc ∧ (∀ i, i < n → wdB (c i) = true) ∧ m = G.np ∧ ∀ i, i < G.np → (G.P i).lo ≤ IN i ∧ IN i ≤ (G.P i).hi := by
  unfold daE at h
  split at h
  · omega
  split at h
  · omega
  split at h
  · omega
  rename_i a b d
  exact ⟨by omega, wdE_0.1 (by omega), by omega, rnE_0.1 h⟩
theorem daE_of {G : Pgm} {c IN : Nat → Int} (h : ∀ i, i < G.nc → wdB (c i) = true) (h2 : ∀ i, i < G.np → (G.P i).lo ≤ IN i ∧ IN i ≤ (G.P i).hi) : daE G G.nc c G.np IN = 0 := by
  unfold daE; rw [if_neg (by simp), if_neg (by rw [wdE_0.2 h]; simp), if_neg (by simp)]; exact rnE_0.2 h2
end Go.Proofs.YtkocmdpfknoiaaaGreatDoor
