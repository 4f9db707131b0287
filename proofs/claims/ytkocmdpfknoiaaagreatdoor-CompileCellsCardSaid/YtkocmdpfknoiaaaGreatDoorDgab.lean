/- Diagrams: what is wrong with one, its order, what is reached (off any program). -/
import Derived.Test.YtkocmdpfknoiaaaGreatDoorNum
namespace Go.Proofs.YtkocmdpfknoiaaaGreatDoor

/-! ### Dga -/
section
/-! ### First errors, first places, counts -/
/-- The first of the n numbers that is not 0, or 0. -/
def fstE : Nat → (Nat → Int) → Int
  | 0, _ => 0
  | n + 1, f => if fstE n f = 0 then f n else fstE n f
theorem fstE_none {n : Nat} {f : Nat → Int} (h : ∀ i, i < n → f i = 0) : fstE n f = 0 := by
  induction n with
  | zero => rfl
  | succ n ih => unfold fstE; rw [if_pos (ih fun i hi => h i (by omega))]; exact h n (by omega)
theorem fstE_hit {n j : Nat} {f : Nat → Int} (h : ∀ i, i < j → f i = 0) (hj : j < n) (hf : f j ≠ 0) : fstE n f = f j := by
  induction n with
  | zero => omega
  | succ n ih =>
    unfold fstE
    by_cases e : j = n
    · subst e; rw [if_pos (fstE_none h)]
    · rw [if_neg (by rw [ih (by omega)]; exact hf), ih (by omega)]
theorem fstE_zero {n : Nat} {f : Nat → Int} (h : fstE n f = 0) (i : Nat) (hi : i < n) : f i = 0 := by
  induction n with
  | zero => omega
  | succ n ih =>
    unfold fstE at h
    by_cases e : fstE n f = 0
    · rw [if_pos e] at h
      by_cases c : i = n
      · subst c; exact h
      · exact ih e (by omega)
    · rw [if_neg e] at h; exact absurd h e
theorem fstE_congr {n : Nat} {f g : Nat → Int} (h : ∀ i, i < n → f i = g i) : fstE n f = fstE n g := by
  induction n with
  | zero => rfl
  | succ n ih => unfold fstE; rw [ih fun i hi => h i (by omega), h n (by omega)]

/-- The first of n places at which q holds, or -1. -/
def fstI : Nat → (Nat → Bool) → Int
  | 0, _ => -1
  | n + 1, q => if fstI n q < 0 then (if q n = true then (n : Int) else -1) else fstI n q
theorem fstI_none {n : Nat} {q : Nat → Bool} (h : ∀ i, i < n → q i = false) : fstI n q = -1 := by
  induction n with
  | zero => rfl
  | succ n ih => unfold fstI; rw [ih fun i hi => h i (by omega), h n (by omega)]; rfl
theorem fstI_hit {n j : Nat} {q : Nat → Bool} (h : ∀ i, i < j → q i = false) (hj : j < n) (hq : q j = true) : fstI n q = j := by
  induction n with
  | zero => omega
  | succ n ih =>
    unfold fstI
    by_cases e : j = n
    · subst e; rw [fstI_none h, hq]; rfl
    · rw [ih (by omega), if_neg (by omega)]
theorem fstI_cases (n : Nat) (q : Nat → Bool) : (fstI n q = -1 ∧ ∀ i, i < n → q i = false) ∨ ∃ j : Nat, j < n ∧ fstI n q = j ∧ q j = true ∧ ∀ i, i < j → q i = false := by
  induction n with
  | zero => exact .inl ⟨rfl, fun i hi => absurd hi (by omega)⟩
  | succ n ih =>
    rcases ih with ⟨h1, h2⟩ | ⟨j, h1, h2, h3, h4⟩
    · cases hq : q n with
      | true => exact .inr ⟨n, by omega, by unfold fstI; rw [h1, hq]; rfl, hq, h2⟩
      | false => exact .inl ⟨by unfold fstI; rw [h1, hq]; rfl, fun i hi => by
          by_cases e : i = n
          · subst e; exact hq
          · exact h2 i (by omega)⟩
    · exact .inr ⟨j, by omega, by unfold fstI; rw [h2, if_neg (by omega)], h3, h4⟩
theorem fstI_congr {n : Nat} {p q : Nat → Bool} (h : ∀ i, i < n → p i = q i) : fstI n p = fstI n q := by
  induction n with
  | zero => rfl
  | succ n ih => unfold fstI; rw [ih fun i hi => h i (by omega), h n (by omega)]

/-- How many of the first n hold. -/
def cnt : Nat → (Nat → Bool) → Nat
  | 0, _ => 0
  | n + 1, p => cnt n p + if p n = true then 1 else 0
theorem cnt_le (n : Nat) (p : Nat → Bool) : cnt n p ≤ n := by
  induction n with
  | zero => exact Nat.le_refl 0
  | succ n ih => unfold cnt; split <;> omega
theorem cnt_congr {n : Nat} {p q : Nat → Bool} (h : ∀ i, i < n → p i = q i) : cnt n p = cnt n q := by
  induction n with
  | zero => rfl
  | succ n ih => unfold cnt; rw [ih fun i hi => h i (by omega), h n (by omega)]
theorem cnt_put {n j : Nat} {p q : Nat → Bool} (hj : j < n) (h0 : p j = false) (hq : q j = true) (h : ∀ i, i ≠ j → q i = p i) : cnt n q = cnt n p + 1 := by
  induction n with
  | zero => omega
  | succ n ih =>
    unfold cnt
    by_cases e : j = n
    · subst e
      rw [hq, h0, cnt_congr (p := q) (q := p) fun i hi => h i (by omega)]
      simp
    · rw [ih (by omega), h n (by omega)]; omega
theorem cnt_mono {n : Nat} {p q : Nat → Bool} (h : ∀ i, i < n → p i = true → q i = true) : cnt n p ≤ cnt n q := by
  induction n with
  | zero => exact Nat.le_refl 0
  | succ n ih =>
    unfold cnt
    have a := ih fun i hi => h i (by omega)
    have b := h n (by omega)
    cases hp : p n with
    | true => rw [b hp]; simp; exact a
    | false => simp; omega
theorem cnt_eq {n : Nat} {p q : Nat → Bool} (h : ∀ i, i < n → p i = true → q i = true) (hc : cnt n q ≤ cnt n p) (i : Nat) (hi : i < n) (hq : q i = true) : p i = true := by
  induction n with
  | zero => omega
  | succ n ih =>
    have a := cnt_mono (n := n) fun i hi => h i (by omega)
    have b := h n (by omega)
    unfold cnt at hc
    by_cases e : i = n
    · subst e
      cases hp : p i with
      | true => rfl
      | false => rw [hp, hq] at hc; simp at hc; omega
    · refine ih (fun i hi => h i (by omega)) ?_ (by omega)
      cases hp : p n with
      | true => rw [hp, b hp] at hc; simp at hc; exact hc
      | false => rw [hp] at hc; simp at hc; omega
theorem cnt_all {n : Nat} {p : Nat → Bool} (h : n ≤ cnt n p) (i : Nat) (hi : i < n) : p i = true := by
  refine cnt_eq (p := p) (q := fun _ => true) (fun _ _ _ => rfl) ?_ i hi rfl
  exact Nat.le_trans (cnt_le _ _) h
theorem cnt_zero {n : Nat} {p : Nat → Bool} (h : ∀ i, i < n → p i = false) : cnt n p = 0 := by
  induction n with
  | zero => rfl
  | succ n ih => unfold cnt; rw [ih fun i hi => h i (by omega), h n (by omega)]; rfl

/-! ### Diagrams -/
structure Blk where
  k : Int
  n : Nat
  a : Nat → Int
  vn : Int
  ve : Int
  un : Int
  ue : Int
structure Prt where
  lo : Int
  hi : Int
  fr : Int
structure Dia where
  ni : Nat
  P : Nat → Prt
  nb : Nat
  B : Nat → Blk
  no : Nat
  O : Nat → Int

def arity (k : Int) : Int := if k = 1 then 0 else if k = 3 ∨ k = 4 ∨ k = 7 ∨ k = 8 ∨ k = 9 then 2 else 1
def usesV (k : Int) : Bool := k == 1 || k == 2 || k == 6 || k == 11
def prtE (p : Prt) : Int := if -2147483648 ≤ p.lo ∧ p.lo ≤ p.hi ∧ p.hi < 2147483648 ∧ 0 ≤ p.fr ∧ p.fr ≤ 30 then 0 else 3
def inE (c : Int) (i : Int) : Int := if 0 ≤ i ∧ i < c then 0 else 10
def scE (used : Bool) (n e : Int) : Int :=
  if used = true then (if n ≤ -2147483648 ∨ 2147483648 ≤ n ∨ e < -62 ∨ 30 < e then 3 else 0) else (if n = 0 ∧ e = 0 then 0 else 2)
/-- Is n * 2^e greater than m * 2^f (exponents from -62 on)? -/
def gtS (n e m f : Int) : Bool := decide (m * 2 ^ (f + 62).toNat < n * 2 ^ (e + 62).toNat)
def cntB (D : Dia) (b : Blk) : Int := if b.k = 0 then D.ni else D.nb
def blkE (D : Dia) (b : Blk) : Int :=
  if b.k < 0 ∨ 11 < b.k then 7 else
  if (b.n : Int) ≠ arity b.k then 11 else
  if fstE b.n (fun i => inE (cntB D b) (b.a i)) ≠ 0 then fstE b.n (fun i => inE (cntB D b) (b.a i)) else
  if scE (usesV b.k) b.vn b.ve ≠ 0 then scE (usesV b.k) b.vn b.ve else
  if scE (b.k == 11) b.un b.ue ≠ 0 then scE (b.k == 11) b.un b.ue else
  if b.k = 11 ∧ gtS b.vn b.ve b.un b.ue = true then 26 else 0

def isD (D : Dia) (i : Nat) : Bool := (D.B i).k == 2
/-- The sources of a block: its arguments that are blocks. -/
def ns (D : Dia) (i : Nat) : Nat := if (D.B i).k = 0 then 0 else (D.B i).n
def sr (D : Dia) (i j : Nat) : Nat := ((D.B i).a j).toNat
/-- Do all first n places hold? -/
def allN (n : Nat) (q : Nat → Bool) : Bool := fstI n (fun i => !q i) == -1
theorem allN_iff {n : Nat} {q : Nat → Bool} : allN n q = true ↔ ∀ i, i < n → q i = true := by
  unfold allN
  constructor
  · intro h i hi
    rcases fstI_cases n (fun i => !q i) with ⟨_, h2⟩ | ⟨j, _, h2, _, _⟩
    · have := h2 i hi; simpa using this
    · rw [h2] at h; simp at h
  · intro h
    rw [fstI_none fun i hi => by simp [h i hi]]; rfl
theorem allN_false {n : Nat} {q : Nat → Bool} : allN n q = false ↔ ∃ i, i < n ∧ q i = false := by
  constructor
  · intro h
    rcases fstI_cases n (fun i => !q i) with ⟨h1, _⟩ | ⟨j, h1, _, h3, _⟩
    · unfold allN at h; rw [h1] at h; simp at h
    · exact ⟨j, h1, by simpa using h3⟩
  · intro ⟨i, hi, hq⟩
    cases h : allN n q with
    | false => rfl
    | true => rw [allN_iff.1 h i hi] at hq; cases hq
theorem allN_congr {n : Nat} {p q : Nat → Bool} (h : ∀ i, i < n → p i = q i) : allN n p = allN n q := by
  unfold allN; rw [fstI_congr fun i hi => by rw [h i hi]]
/-- Block i is ready if p are listed. -/
def rdy (D : Dia) (p : Nat → Bool) (i : Nat) : Bool := !p i && !isD D i && allN (ns D i) fun j => p (sr D i j) || isD D (sr D i j)
def inL (L : List Nat) : Nat → Bool := fun i => L.contains i
def ordF (D : Dia) : Nat → List Nat → List Nat
  | 0, L => L
  | n + 1, L => if fstI D.nb (rdy D (inL L)) < 0 then L else ordF D n (L ++ [(fstI D.nb (rdy D (inL L))).toNat])
def ordL (D : Dia) : List Nat := ordF D D.nb []
/-- The numbers below n at which p holds. -/
def mkL : Nat → (Nat → Bool) → List Nat
  | 0, _ => []
  | n + 1, p => mkL n p ++ if p n = true then [n] else []
def delL (D : Dia) : List Nat := mkL D.nb (isD D)

/-- What is wrong with a diagram. -/
def chk (D : Dia) : Int :=
  if 16 < D.ni ∨ 64 < D.nb ∨ 16 < D.no then 4 else
  if fstE D.ni (fun i => prtE (D.P i)) ≠ 0 then fstE D.ni (fun i => prtE (D.P i)) else
  if fstE D.nb (fun i => blkE D (D.B i)) ≠ 0 then fstE D.nb (fun i => blkE D (D.B i)) else
  if fstE D.no (fun i => inE D.nb (D.O i)) ≠ 0 then fstE D.no (fun i => inE D.nb (D.O i)) else
  if (ordL D).length + (delL D).length < D.nb then 24 else 0

/-- Sizes and indices are as they should be. -/
structure WF (D : Dia) : Prop where
  ni : D.ni ≤ 16
  nb : D.nb ≤ 64
  no : D.no ≤ 16
  k0 : ∀ i, i < D.nb → 0 ≤ (D.B i).k ∧ (D.B i).k ≤ 11
  ar : ∀ i, i < D.nb → ((D.B i).n : Int) = arity (D.B i).k
  arg : ∀ i, i < D.nb → ∀ j, j < (D.B i).n → 0 ≤ (D.B i).a j ∧ (D.B i).a j < cntB D (D.B i)
theorem inE_zero {c i : Int} (h : inE c i = 0) : 0 ≤ i ∧ i < c := by
  unfold inE at h
  by_cases q : 0 ≤ i ∧ i < c
  · exact q
  · rw [if_neg q] at h; omega
theorem blkE_zero {D : Dia} {b : Blk} (h : blkE D b = 0) : 0 ≤ b.k ∧ b.k ≤ 11 ∧ (b.n : Int) = arity b.k ∧ ∀ j, j < b.n → 0 ≤ b.a j ∧ b.a j < cntB D b := by
  unfold blkE at h
  by_cases h1 : b.k < 0 ∨ 11 < b.k
  · rw [if_pos h1] at h; omega
  rw [if_neg h1] at h
  by_cases h2 : (b.n : Int) ≠ arity b.k
  · rw [if_pos h2] at h; omega
  rw [if_neg h2] at h
  by_cases h3 : fstE b.n (fun i => inE (cntB D b) (b.a i)) ≠ 0
  · rw [if_pos h3] at h; exact absurd h h3
  refine ⟨by omega, by omega, by omega, fun j hj => ?_⟩
  exact inE_zero (fstE_zero (f := fun i => inE (cntB D b) (b.a i)) (by omega) j hj)
theorem chk_wf {D : Dia} (h1 : D.ni ≤ 16) (h2 : D.nb ≤ 64) (h3 : D.no ≤ 16) (h : fstE D.nb (fun i => blkE D (D.B i)) = 0) : WF D where
  ni := h1
  nb := h2
  no := h3
  k0 := fun i hi => by have := blkE_zero (fstE_zero h i hi); exact ⟨this.1, this.2.1⟩
  ar := fun i hi => (blkE_zero (fstE_zero h i hi)).2.2.1
  arg := fun i hi => (blkE_zero (fstE_zero h i hi)).2.2.2
/-- A diagram that is accepted. -/
structure OkD (D : Dia) : Prop extends WF D where
  be : ∀ i, i < D.nb → blkE D (D.B i) = 0
  pe : ∀ i, i < D.ni → prtE (D.P i) = 0
  out : ∀ j, j < D.no → 0 ≤ D.O j ∧ D.O j < D.nb
  cyc : D.nb ≤ (ordL D).length + (delL D).length
theorem chk_ok {D : Dia} (h : chk D = 0) : OkD D := by
  unfold chk at h
  by_cases h1 : 16 < D.ni ∨ 64 < D.nb ∨ 16 < D.no
  · rw [if_pos h1] at h; omega
  rw [if_neg h1] at h
  by_cases h2 : fstE D.ni (fun i => prtE (D.P i)) ≠ 0
  · rw [if_pos h2] at h; exact absurd h h2
  rw [if_neg h2] at h
  by_cases h3 : fstE D.nb (fun i => blkE D (D.B i)) ≠ 0
  · rw [if_pos h3] at h; exact absurd h h3
  rw [if_neg h3] at h
  by_cases h4 : fstE D.no (fun i => inE D.nb (D.O i)) ≠ 0
  · rw [if_pos h4] at h; exact absurd h h4
  rw [if_neg h4] at h
  by_cases h5 : (ordL D).length + (delL D).length < D.nb
  · rw [if_pos h5] at h; omega
  exact { chk_wf (by omega) (by omega) (by omega) (by omega) with
    be := fun i hi => fstE_zero (f := fun i => blkE D (D.B i)) (by omega) i hi
    pe := fun i hi => fstE_zero (f := fun i => prtE (D.P i)) (by omega) i hi
    out := fun i hi => inE_zero (fstE_zero (f := fun i => inE D.nb (D.O i)) (by omega) i hi)
    cyc := by omega }
theorem ok_chk {D : Dia} (h : OkD D) : chk D = 0 := by
  unfold chk
  rw [if_neg (by have := h.ni; have := h.nb; have := h.no; omega), if_neg (by rw [fstE_none h.pe]; omega), if_neg (by rw [fstE_none h.be]; omega),
    if_neg (by rw [fstE_none (f := fun i => inE D.nb (D.O i)) fun i hi => if_pos (h.out i hi)]; omega), if_neg (by have := h.cyc; omega)]

theorem WF.src {D : Dia} (h : WF D) {i j : Nat} (hi : i < D.nb) (hj : j < ns D i) : ((D.B i).a j) = (sr D i j : Nat) ∧ sr D i j < D.nb ∧ ns D i ≤ 2 := by
  unfold ns at hj ⊢
  by_cases e : (D.B i).k = 0
  · rw [if_pos e] at hj; omega
  · rw [if_neg e] at hj ⊢
    have a := h.arg i hi j hj
    have b := h.ar i hi
    unfold cntB at a; rw [if_neg e] at a
    unfold sr
    refine ⟨by omega, by omega, ?_⟩
    unfold arity at b; split at b <;> (try split at b) <;> omega
theorem WF.ns2 {D : Dia} (h : WF D) {i : Nat} (hi : i < D.nb) : ns D i ≤ 2 ∧ (D.B i).n ≤ 2 := by
  have b := h.ar i hi
  have : (D.B i).n ≤ 2 := by unfold arity at b; split at b <;> (try split at b) <;> omega
  unfold ns; split <;> omega

/-! ### Order -/
theorem inL_app (L : List Nat) (j i : Nat) : inL (L ++ [j]) i = (inL L i || i == j) := by
  unfold inL
  rw [Bool.eq_iff_iff]
  simp [List.mem_append]
theorem inL_nil (i : Nat) : inL [] i = false := rfl
/-- What the loop that lists keeps. -/
structure OrdI (D : Dia) (L : List Nat) : Prop where
  lt : ∀ i, inL L i = true → i < D.nb ∧ isD D i = false
  len : L.length + cnt D.nb (fun i => !inL L i) = D.nb
  fut : ordF D (D.nb - L.length) L = ordL D
theorem OrdI.nil (D : Dia) : OrdI D [] := ⟨fun i h => (by cases h), by
  have : cnt D.nb (fun i => !inL [] i) = cnt D.nb (fun _ => true) := rfl
  rw [this]
  have : ∀ n, cnt n (fun _ => true) = n := fun n => by
    induction n with
    | zero => rfl
    | succ n ih => unfold cnt; rw [ih]; rfl
  rw [this]; simp, rfl⟩
theorem OrdI.le {D : Dia} {L : List Nat} (h : OrdI D L) : L.length ≤ D.nb := by have := h.len; omega
theorem OrdI.app {D : Dia} {L : List Nat} (h : OrdI D L) {j : Nat} (hj : j < D.nb) (hf : fstI D.nb (rdy D (inL L)) = j) (hr : rdy D (inL L) j = true) : OrdI D (L ++ [j]) := by
  have hr' := hr
  unfold rdy at hr'
  simp only [Bool.and_eq_true, Bool.not_eq_true'] at hr'
  have hp := cnt_put (n := D.nb) (j := j) (p := fun i => inL L i) (q := fun i => inL (L ++ [j]) i) hj hr'.1.1 (by rw [inL_app]; simp) (fun i hi => by rw [inL_app]; simp [hi])
  have hn := cnt_put (n := D.nb) (j := j) (p := fun i => !inL (L ++ [j]) i) (q := fun i => !inL L i) hj (by rw [inL_app]; simp) (by simp [hr'.1.1]) (fun i hi => by rw [inL_app]; simp [hi])
  have hl := h.len
  refine ⟨fun i hi => ?_, by simp; omega, ?_⟩
  · rw [inL_app] at hi
    simp only [Bool.or_eq_true, beq_iff_eq] at hi
    rcases hi with hi | rfl
    · exact h.lt i hi
    · exact ⟨hj, hr'.1.2⟩
  · rw [← h.fut]
    have e : D.nb - L.length = (D.nb - (L ++ [j]).length) + 1 := by simp; omega
    rw [e]
    show _ = if fstI D.nb (rdy D (inL L)) < 0 then L else ordF D _ (L ++ [(fstI D.nb (rdy D (inL L))).toNat])
    rw [hf, if_neg (by omega)]; simp
theorem OrdI.fin {D : Dia} {L : List Nat} (h : OrdI D L) (hf : fstI D.nb (rdy D (inL L)) = -1) : ordL D = L := by
  rw [← h.fut]
  cases e : D.nb - L.length with
  | zero => rfl
  | succ n => show (if _ then _ else _) = _; rw [hf]; rfl
theorem OrdI.room {D : Dia} {L : List Nat} (h : OrdI D L) {j : Nat} (hj : j < D.nb) (hr : rdy D (inL L) j = true) : L.length < D.nb := by
  have hl := h.len
  unfold rdy at hr
  simp only [Bool.and_eq_true, Bool.not_eq_true'] at hr
  have := cnt_put (n := D.nb) (j := j) (p := fun i => !inL (L ++ [j]) i) (q := fun i => !inL L i) hj (by rw [inL_app]; simp) (by simp [hr.1.1]) (fun i hi => by rw [inL_app]; simp [hi])
  omega
/-- The order is an end of the loop. -/
theorem ord_end (D : Dia) : OrdI D (ordL D) ∧ fstI D.nb (rdy D (inL (ordL D))) = -1 := by
  have : ∀ n L, OrdI D L → D.nb - L.length = n → OrdI D (ordF D n L) ∧ fstI D.nb (rdy D (inL (ordF D n L))) = -1 := by
    intro n
    induction n with
    | zero =>
      intro L h e
      refine ⟨h, ?_⟩
      rcases fstI_cases D.nb (rdy D (inL L)) with ⟨h1, _⟩ | ⟨j, h1, _, h3, _⟩
      · exact h1
      · have := h.room h1 h3; omega
    | succ n ih =>
      intro L h e
      unfold ordF
      rcases fstI_cases D.nb (rdy D (inL L)) with ⟨h1, _⟩ | ⟨j, h1, h2, h3, _⟩
      · rw [h1, if_pos (by omega)]; exact ⟨h, h1⟩
      · rw [h2, if_neg (by omega)]
        exact ih _ (by rw [Int.toNat_natCast]; exact h.app h1 h2 h3) (by simp; omega)
  exact this _ _ (OrdI.nil D) (by simp)

/-! ### Lists of what is marked -/
theorem mkL_congr {n : Nat} {p q : Nat → Bool} (h : ∀ i, i < n → p i = q i) : mkL n p = mkL n q := by
  induction n with
  | zero => rfl
  | succ n ih => unfold mkL; rw [ih fun i hi => h i (by omega), h n (by omega)]
theorem mem_mkL {n : Nat} {p : Nat → Bool} {i : Nat} : i ∈ mkL n p ↔ i < n ∧ p i = true := by
  induction n with
  | zero => simp [mkL]
  | succ n ih =>
    unfold mkL
    rw [List.mem_append, ih]
    cases hp : p n with
    | true =>
      simp
      constructor
      · rintro (⟨h1, h2⟩ | rfl)
        · exact ⟨by omega, h2⟩
        · exact ⟨by omega, hp⟩
      · intro ⟨h1, h2⟩
        by_cases e : i = n
        · exact .inr e
        · exact .inl ⟨by omega, h2⟩
    | false =>
      have q : i ∉ (if false = true then [n] else []) := by simp
      constructor
      · rintro (⟨h1, h2⟩ | h)
        · exact ⟨by omega, h2⟩
        · exact absurd h q
      · intro ⟨h1, h2⟩
        refine .inl ⟨?_, h2⟩
        by_cases e : i = n
        · subst e; rw [hp] at h2; cases h2
        · omega
theorem mkL_len (n : Nat) (p : Nat → Bool) : (mkL n p).length = cnt n p := by
  induction n with
  | zero => rfl
  | succ n ih => unfold mkL cnt; rw [List.length_append, ih]; split <;> simp
end

/-! ### Dgb -/
section
/-- A way of going on: block i leads to the blocks nx i j for j < nn i. -/
structure Nx where
  nn : Nat → Nat
  nx : Nat → Nat → Nat
/-- Closed sets. -/
def Clo (nb : Nat) (N : Nx) (T : Nat → Bool) : Prop := ∀ i, i < nb → T i = true → ∀ j, j < N.nn i → T (N.nx i j) = true
/-- The least closed set with st in it. -/
structure IsR (nb : Nat) (N : Nx) (st S : Nat → Bool) : Prop where
  stt : ∀ i, st i = true → S i = true
  clo : Clo nb N S
  least : ∀ T, Clo nb N T → (∀ i, st i = true → T i = true) → ∀ i, S i = true → T i = true
theorem IsR.uniq {nb : Nat} {N : Nx} {st S S' : Nat → Bool} (h : IsR nb N st S) (h' : IsR nb N st S') (i : Nat) : S i = S' i := by
  rw [Bool.eq_iff_iff]
  exact ⟨h.least S' h'.clo h'.stt i, h'.least S h.clo h.stt i⟩
theorem IsR.congr {nb : Nat} {N N' : Nx} {st st' S : Nat → Bool} (h : IsR nb N st S) (e1 : ∀ i, i < nb → N.nn i = N'.nn i) (e2 : ∀ i j, i < nb → j < N.nn i → N.nx i j = N'.nx i j) (e3 : ∀ i, st i = st' i) : IsR nb N' st' S := by
  have hc : ∀ T, Clo nb N T ↔ Clo nb N' T := fun T => ⟨fun h i hi ht j hj => by rw [← e2 i j hi (by rw [e1 i hi]; exact hj)]; exact h i hi ht j (by rw [e1 i hi]; exact hj),
    fun h i hi ht j hj => by rw [e2 i j hi hj]; exact h i hi ht j (by rw [← e1 i hi]; exact hj)⟩
  exact ⟨fun i hi => h.stt i (by rw [e3]; exact hi), (hc _).1 h.clo, fun T hT hs i hi => h.least T ((hc _).2 hT) (fun i hi => hs i (by rw [← e3]; exact hi)) i hi⟩

/-- The going on of a diagram: within a tick, or over ticks. -/
def nxD (D : Dia) (over : Bool) : Nx := ⟨fun i => if over = false ∧ isD D i = true then 0 else ns D i, sr D⟩
def nxW (D : Dia) : Nx := nxD D false
theorem WF.nxlt {D : Dia} (h : WF D) {over : Bool} {i j : Nat} (hi : i < D.nb) (hj : j < (nxD D over).nn i) : (nxD D over).nx i j < D.nb ∧ (nxD D over).nn i ≤ 2 ∧ j < ns D i := by
  unfold nxD at hj ⊢
  simp only at hj ⊢
  by_cases q : over = false ∧ isD D i = true
  · rw [if_pos q] at hj; omega
  · rw [if_neg q] at hj ⊢
    have := h.src hi hj
    exact ⟨this.2.1, this.2.2, hj⟩

/-! ### By a search -/
/-- What a search keeps: found F, listed L, waiting W (all below nb). -/
structure Dfs (nb : Nat) (N : Nx) (st : Nat → Bool) (F : Nat → Bool) (L W : List Nat) : Prop where
  mem : ∀ i, F i = true ↔ i ∈ L
  lt : ∀ i, i ∈ L ∨ i ∈ W → i < nb
  stt : ∀ i, st i = true → i ∈ L ∨ i ∈ W
  clo : ∀ i, i ∈ L → ∀ j, j < N.nn i → N.nx i j ∈ L ∨ N.nx i j ∈ W
  least : ∀ T, Clo nb N T → (∀ i, st i = true → T i = true) → ∀ i, i ∈ L ∨ i ∈ W → T i = true
  nodup : L.Nodup
theorem Dfs.start {nb : Nat} {N : Nx} {st : Nat → Bool} {W : List Nat} (hlt : ∀ i, i ∈ W → i < nb) (hst : ∀ i, st i = true ↔ i ∈ W) : Dfs nb N st (fun _ => false) [] W where
  mem := fun i => by simp
  lt := fun i hi => by rcases hi with h | h; cases h; exact hlt i h
  stt := fun i hi => .inr ((hst i).1 hi)
  clo := fun i hi => by cases hi
  least := fun T _ hs i hi => by rcases hi with h | h; cases h; exact hs i ((hst i).2 h)
  nodup := List.nodup_nil
theorem Dfs.skip {nb : Nat} {N : Nx} {st F : Nat → Bool} {L W : List Nat} {i : Nat} (h : Dfs nb N st F L (W ++ [i])) (hf : F i = true) : Dfs nb N st F L W := by
  have hi := (h.mem i).1 hf
  have hw : ∀ x, x ∈ L ∨ x ∈ W ++ [i] ↔ x ∈ L ∨ x ∈ W := fun x => by
    rw [List.mem_append]
    constructor
    · rintro (a | a | a)
      · exact .inl a
      · exact .inr a
      · rw [List.mem_singleton] at a; subst a; exact .inl hi
    · rintro (a | a)
      · exact .inl a
      · exact .inr (.inl a)
  exact ⟨h.mem, fun x hx => h.lt x ((hw x).2 hx), fun x hx => (hw x).1 (h.stt x hx), fun x hx j hj => (hw _).1 (h.clo x hx j hj), fun T a b x hx => h.least T a b x ((hw x).2 hx), h.nodup⟩
theorem Dfs.take {nb : Nat} {N : Nx} {st F : Nat → Bool} {L W V : List Nat} {i : Nat} (h : Dfs nb N st F L (W ++ [i])) (hf : F i = false) (hV : ∀ x, x ∈ V ↔ ∃ j, j < N.nn i ∧ x = N.nx i j)
    (hlt : ∀ j, j < N.nn i → N.nx i j < nb) : Dfs nb N st (fun x => if x = i then true else F x) (L ++ [i]) (W ++ V) := by
  have hil : i ∉ L := fun q => by rw [(h.mem i).2 q] at hf; cases hf
  have hi : i < nb := h.lt i (.inr (by simp))
  have hw : ∀ x, x ∈ L ∨ x ∈ W ++ [i] → x ∈ L ++ [i] ∨ x ∈ W ++ V := fun x hx => by
    rw [List.mem_append] at hx ⊢; rw [List.mem_append]
    rcases hx with a | a | a
    · exact .inl (.inl a)
    · exact .inr (.inl a)
    · exact .inl (.inr a)
  refine ⟨fun x => ?_, fun x hx => ?_, fun x hx => hw x (h.stt x hx), fun x hx j hj => ?_, fun T a b x hx => ?_, ?_⟩
  · rw [List.mem_append, List.mem_singleton]
    by_cases e : x = i
    · simp [e]
    · rw [if_neg e, h.mem x]; simp [e]
  · rw [List.mem_append, List.mem_append, List.mem_singleton] at hx
    rcases hx with (a | rfl) | a | a
    · exact h.lt x (.inl a)
    · exact hi
    · exact h.lt x (.inr (by simp [a]))
    · obtain ⟨j, hj, rfl⟩ := (hV x).1 a; exact hlt j hj
  · rw [List.mem_append, List.mem_singleton] at hx
    rcases hx with a | rfl
    · exact hw _ (h.clo x a j hj)
    · exact .inr (List.mem_append.2 (.inr ((hV _).2 ⟨j, hj, rfl⟩)))
  · rw [List.mem_append, List.mem_append, List.mem_singleton] at hx
    have hTi := h.least T a b i (.inr (by simp))
    rcases hx with (c | rfl) | c | c
    · exact h.least T a b x (.inl c)
    · exact hTi
    · exact h.least T a b x (.inr (by simp [c]))
    · obtain ⟨j, hj, rfl⟩ := (hV x).1 c; exact a i hi hTi j hj
  · rw [List.nodup_append]
    refine ⟨h.nodup, by simp, fun a ha b hb => ?_⟩
    rw [List.mem_singleton] at hb
    subst hb
    intro e; subst e; exact hil ha
theorem Dfs.fin {nb : Nat} {N : Nx} {st F : Nat → Bool} {L : List Nat} (h : Dfs nb N st F L []) : IsR nb N st F := by
  refine ⟨fun i hi => (h.mem i).2 ?_, fun i hi ht j hj => (h.mem _).2 ?_, fun T a b i hi => h.least T a b i (.inl ((h.mem i).1 hi))⟩
  · rcases h.stt i hi with q | q
    · exact q
    · cases q
  · rcases h.clo i ((h.mem i).1 ht) j hj with q | q
    · exact q
    · cases q
/-- Rounds that are left. -/
def msr (nb : Nat) (F : Nat → Bool) (n : Nat) : Nat := 3 * cnt nb (fun i => !F i) + n
theorem msr_take {nb : Nat} {F : Nat → Bool} {i n m : Nat} (hi : i < nb) (hf : F i = false) (hm : m ≤ 2) : msr nb (fun x => if x = i then true else F x) (n + m) < msr nb F (n + 1) := by
  have := cnt_put (n := nb) (j := i) (p := fun x => !(if x = i then true else F x)) (q := fun x => !F x) hi (by simp) (by simp [hf]) (fun x hx => by simp [hx])
  unfold msr; simp only [] at this ⊢; omega

/-! ### Sorted lists -/
theorem perm_mkL {nb : Nat} {F : Nat → Bool} {L : List Nat} (hm : ∀ i, F i = true ↔ i ∈ L) (hlt : ∀ i, i ∈ L → i < nb) (hn : L.Nodup) : (mkL nb F).Perm L := by
  have nd : ∀ n, (mkL n F).Nodup := fun n => by
    induction n with
    | zero => exact List.nodup_nil
    | succ n ih =>
      unfold mkL
      rw [List.nodup_append]
      refine ⟨ih, by split <;> simp, fun a ha b hb => ?_⟩
      have := (mem_mkL.1 ha).1
      split at hb
      · rw [List.mem_singleton] at hb; omega
      · cases hb
  rw [List.perm_ext_iff_of_nodup (nd nb) hn]
  intro a
  rw [mem_mkL, hm a]
  exact ⟨fun h => h.2, fun h => ⟨hlt a h, h⟩⟩
theorem mkL_sorted (n : Nat) (p : Nat → Bool) : (mkL n p).Pairwise (· < ·) := by
  induction n with
  | zero => exact List.Pairwise.nil
  | succ n ih =>
    unfold mkL
    rw [List.pairwise_append]
    refine ⟨ih, by split <;> simp, fun a ha b hb => ?_⟩
    have := (mem_mkL.1 ha).1
    split at hb
    · rw [List.mem_singleton] at hb; omega
    · cases hb

/-! ### By rounds of marks -/
/-- What the rounds keep: after r rounds, within a round at block i, where M0 was marked when the round began. -/
structure Mrk (nb : Nat) (N : Nx) (st M : Nat → Bool) (r : Nat) : Prop where
  stt : ∀ i, st i = true → M i = true
  least : ∀ T, Clo nb N T → (∀ i, st i = true → T i = true) → ∀ i, M i = true → T i = true
  much : Clo nb N M ∨ r ≤ cnt nb M
theorem Mrk.start {nb : Nat} {N : Nx} {st : Nat → Bool} : Mrk nb N st st 0 := ⟨fun _ h => h, fun _ _ h => h, .inr (Nat.zero_le _)⟩
structure MrkI (nb : Nat) (N : Nx) (st M0 M : Nat → Bool) (i : Nat) : Prop where
  stt : ∀ i, st i = true → M i = true
  least : ∀ T, Clo nb N T → (∀ i, st i = true → T i = true) → ∀ i, M i = true → T i = true
  sub : ∀ i, M0 i = true → M i = true
  done : ∀ k, k < i → M0 k = true → ∀ j, j < N.nn k → M (N.nx k j) = true
theorem Mrk.go {nb : Nat} {N : Nx} {st M : Nat → Bool} {r : Nat} (h : Mrk nb N st M r) : MrkI nb N st M M 0 := ⟨h.stt, h.least, fun _ h => h, fun k hk => absurd hk (by omega)⟩
theorem MrkI.next {nb : Nat} {N : Nx} {st M0 M M' : Nat → Bool} {i : Nat} (h : MrkI nb N st M0 M i) (hi : i < nb) (hs : ∀ k, M k = true → M' k = true) (hd : M i = true → ∀ j, j < N.nn i → M' (N.nx i j) = true)
    (hl : ∀ k, M' k = true → M k = true ∨ (M i = true ∧ ∃ j, j < N.nn i ∧ k = N.nx i j)) : MrkI nb N st M0 M' (i + 1) where
  stt := fun k hk => hs k (h.stt k hk)
  least := fun T a b k hk => by
    rcases hl k hk with c | ⟨c, j, hj, rfl⟩
    · exact h.least T a b k c
    · exact a i hi (h.least T a b i c) j hj
  sub := fun k hk => hs k (h.sub k hk)
  done := fun k hk h0 j hj => by
    by_cases e : k = i
    · subst e; exact hd (h.sub k h0) j hj
    · exact hs _ (h.done k (by omega) h0 j hj)
theorem MrkI.end_ {nb : Nat} {N : Nx} {st M0 M : Nat → Bool} {r : Nat} (h0 : Mrk nb N st M0 r) (h : MrkI nb N st M0 M nb) : Mrk nb N st M (r + 1) where
  stt := h.stt
  least := h.least
  much := by
    by_cases q : cnt nb M ≤ cnt nb M0
    · left
      intro k hk hm j hj
      exact h.done k hk (cnt_eq (fun i _ => h.sub i) q k hk hm) j hj
    · rcases h0.much with c | c
      · left
        intro k hk hm j hj
        have hT : M0 k = true := h.least M0 c h0.stt k hm
        exact h.done k hk hT j hj
      · right; omega
theorem Mrk.fin {nb : Nat} {N : Nx} {st M : Nat → Bool} (h : Mrk nb N st M nb) (hlt : ∀ i j, i < nb → j < N.nn i → N.nx i j < nb) : IsR nb N st M := by
  refine ⟨h.stt, ?_, h.least⟩
  rcases h.much with c | c
  · exact c
  · intro i hi _ j hj
    exact cnt_all c _ (hlt i j hi hj)
end

end Go.Proofs.YtkocmdpfknoiaaaGreatDoor
