/- Diagrams: what a circle leaves, and the diagram that is opened (off any program). -/
import Derived.Test.YtgajibdmihdkcaaDoorDhg
namespace Go.Proofs.YtgajibdmihdkcaaDoor
open Go Go.RowKit

/-- Sets of blocks, no delays, each with an argument in the set. -/
def Cl (D : Dia) (T : Nat → Bool) : Prop := ∀ i, i < D.nb → T i = true → isD D i = false ∧ ∃ j, j < ns D i ∧ T (sr D i j) = true
structure Lft (D : Dia) (M : Nat → Bool) (r : Nat) : Prop where
  great : ∀ T, Cl D T → ∀ i, i < D.nb → T i = true → M i = true
  nd : ∀ i, i < D.nb → M i = true → isD D i = false
  much : Cl D M ∨ cnt D.nb M + r ≤ D.nb
theorem Lft.start {D : Dia} {M : Nat → Bool} (h : ∀ i, i < D.nb → M i = !isD D i) : Lft D M 0 :=
  ⟨fun T hT i hi h2 => by rw [h i hi, (hT i hi h2).1]; rfl, fun i hi h2 => by rw [h i hi] at h2; simpa using h2, .inr (cnt_le _ _)⟩
structure LftI (D : Dia) (M0 M : Nat → Bool) (i : Nat) : Prop where
  great : ∀ T, Cl D T → ∀ i, i < D.nb → T i = true → M i = true
  nd : ∀ i, i < D.nb → M i = true → isD D i = false
  sub : ∀ k, M k = true → M0 k = true
  done : ∀ k, k < i → M k = true → ∃ j, j < ns D k ∧ M0 (sr D k j) = true
theorem Lft.go {D : Dia} {M : Nat → Bool} {r : Nat} (h : Lft D M r) : LftI D M M 0 := ⟨h.great, h.nd, fun _ h => h, fun k hk => absurd hk (by omega)⟩
theorem LftI.next {D : Dia} {M0 M M' : Nat → Bool} {i : Nat} (wf : WF D) (h : LftI D M0 M i) (hi : i < D.nb) (hM : ∀ x, M' x = if x = i then M i && anyN (ns D i) (fun j => M (sr D i j)) else M x) : LftI D M0 M' (i + 1) where
  great := fun T hT x hx ht => by
    rw [hM x]
    by_cases e : x = i
    · subst e
      obtain ⟨_, j, hj, h2⟩ := hT x hx ht
      rw [if_pos rfl, h.great T hT x hx ht, anyN_iff.2 ⟨j, hj, h.great T hT (sr D x j) (wf.src hx hj).2.1 h2⟩]; rfl
    · rw [if_neg e]; exact h.great T hT x hx ht
  nd := fun x hx h2 => by
    rw [hM x] at h2
    by_cases e : x = i
    · subst e
      rw [if_pos rfl, Bool.and_eq_true] at h2
      exact h.nd x hx h2.1
    · rw [if_neg e] at h2; exact h.nd x hx h2
  sub := fun x h2 => by
    rw [hM x] at h2
    by_cases e : x = i
    · subst e
      rw [if_pos rfl, Bool.and_eq_true] at h2
      exact h.sub x h2.1
    · rw [if_neg e] at h2; exact h.sub x h2
  done := fun x hx h2 => by
    rw [hM x] at h2
    by_cases e : x = i
    · subst e
      rw [if_pos rfl, Bool.and_eq_true, anyN_iff] at h2
      obtain ⟨_, j, hj, h3⟩ := h2
      exact ⟨j, hj, h.sub _ h3⟩
    · rw [if_neg e] at h2; exact h.done x (by omega) h2
theorem LftI.end_ {D : Dia} {M0 M : Nat → Bool} {r : Nat} (wf : WF D) (h0 : Lft D M0 r) (h : LftI D M0 M D.nb) : Lft D M (r + 1) where
  great := h.great
  nd := h.nd
  much := by
    by_cases q : cnt D.nb M0 ≤ cnt D.nb M
    · left
      intro k hk hm
      obtain ⟨j, hj, h2⟩ := h.done k hk hm
      exact ⟨h.nd k hk hm, j, hj, cnt_eq (fun i _ => h.sub i) q _ (wf.src hk hj).2.1 h2⟩
    · rcases h0.much with c | c
      · exact absurd (cnt_mono fun i hi hm => h.great M0 c i hi hm) q
      · right; omega
theorem Lft.fin {D : Dia} {M : Nat → Bool} (h : Lft D M D.nb) : Cl D M := by
  rcases h.much with c | c
  · exact c
  · intro i hi hm
    have := cnt_eq (n := D.nb) (p := fun _ => false) (q := M) (fun _ _ h => by cases h) (by omega) i hi hm
    cases this
/-- What the order leaves. -/
def rest (D : Dia) : Nat → Bool := fun i => !isD D i && !inL (ordL D) i
theorem rest_cl (D : Dia) : Cl D (rest D) := fun i hi h => by
  unfold rest at h
  simp only [Bool.and_eq_true, Bool.not_eq_true'] at h
  refine ⟨h.1, ?_⟩
  have he := (ord_end D).2
  have hr : rdy D (inL (ordL D)) i = false := by
    rcases fstI_cases D.nb (rdy D (inL (ordL D))) with ⟨_, h2⟩ | ⟨j, _, h2, _⟩
    · exact h2 i hi
    · rw [h2] at he; omega
  unfold rdy at hr
  rw [h.1, h.2] at hr
  have ha : allN (ns D i) (fun j => inL (ordL D) (sr D i j) || isD D (sr D i j)) = false := hr
  obtain ⟨j, hj, hq⟩ := allN_false.1 ha
  rw [Bool.or_eq_false_iff] at hq
  exact ⟨j, hj, by unfold rest; rw [hq.1, hq.2]; rfl⟩
theorem rest_some {D : Dia} (h : (ordL D).length + (delL D).length < D.nb) : ∃ i, i < D.nb ∧ rest D i = true := by
  refine Classical.byContradiction fun q => ?_
  have hl := (ord_end D).1.len
  unfold delL at h
  rw [mkL_len] at h
  have := cnt_mono (n := D.nb) (p := fun i => !inL (ordL D) i) (q := isD D) fun i hi hm => by
    cases hd : isD D i with
    | true => rfl
    | false => exact absurd ⟨i, hi, by unfold rest; rw [hd, hm]; rfl⟩ q
  omega
/-- The diagram that is opened. -/
def openD (D : Dia) (S : Nat → Bool) : Dia := { D with B := fun i => if S i = true then ⟨2, 1, (D.B i).a, 0, 0, 0, 0⟩ else D.B i }
theorem fstE_val (n : Nat) (f : Nat → Int) : fstE n f = 0 ∨ ∃ i, i < n ∧ fstE n f = f i := by
  induction n with
  | zero => exact .inl rfl
  | succ n ih =>
    unfold fstE
    by_cases e : fstE n f = 0
    · rw [if_pos e]; exact .inr ⟨n, by omega, rfl⟩
    · rw [if_neg e]
      rcases ih with h | ⟨i, hi, h⟩
      · exact absurd h e
      · exact .inr ⟨i, by omega, h⟩
theorem fstE_24 {n : Nat} {f : Nat → Int} (h : ∀ i, i < n → f i ≠ 24) : fstE n f ≠ 24 := by
  rcases fstE_val n f with e | ⟨i, hi, e⟩
  · rw [e]; omega
  · rw [e]; exact h i hi
theorem inE_24 (c i : Int) : inE c i ≠ 24 := by unfold inE; split <;> omega
theorem prtE_24 (p : Prt) : prtE p ≠ 24 := by unfold prtE; split <;> omega
theorem scE_24 (b : Bool) (n e : Int) : scE b n e ≠ 24 := by unfold scE; split <;> split <;> omega
theorem blkE_24 (D : Dia) (b : Blk) : blkE D b ≠ 24 := by
  have h1 : fstE b.n (fun i => inE (cntB D b) (b.a i)) ≠ 24 := fstE_24 fun i _ => inE_24 _ _
  have h2 := scE_24 (usesV b.k) b.vn b.ve
  have h3 := scE_24 (b.k == 11) b.un b.ue
  unfold blkE
  split
  · omega
  split
  · omega
  split
  · exact h1
  split
  · exact h2
  split
  · exact h3
  split <;> omega
structure Cyc (D : Dia) : Prop extends WF D where
  be : ∀ i, i < D.nb → blkE D (D.B i) = 0
  pe : ∀ i, i < D.ni → prtE (D.P i) = 0
  out : ∀ j, j < D.no → 0 ≤ D.O j ∧ D.O j < D.nb
  cyc : (ordL D).length + (delL D).length < D.nb
theorem chk_Cyc {D : Dia} (h : chk D = 24) : Cyc D := by
  unfold chk at h
  by_cases h1 : 16 < D.ni ∨ 64 < D.nb ∨ 16 < D.no
  · rw [if_pos h1] at h; omega
  rw [if_neg h1] at h
  by_cases h2 : fstE D.ni (fun i => prtE (D.P i)) ≠ 0
  · rw [if_pos h2] at h; exact absurd h (fstE_24 fun i _ => prtE_24 _)
  rw [if_neg h2] at h
  by_cases h3 : fstE D.nb (fun i => blkE D (D.B i)) ≠ 0
  · rw [if_pos h3] at h; exact absurd h (fstE_24 fun i _ => blkE_24 _ _)
  rw [if_neg h3] at h
  by_cases h4 : fstE D.no (fun i => inE D.nb (D.O i)) ≠ 0
  · rw [if_pos h4] at h; exact absurd h (fstE_24 fun i _ => inE_24 _ _)
  rw [if_neg h4] at h
  by_cases h5 : (ordL D).length + (delL D).length < D.nb
  · exact { chk_wf (by omega) (by omega) (by omega) (by omega) with
      be := fun i hi => fstE_zero (f := fun i => blkE D (D.B i)) (by omega) i hi
      pe := fun i hi => fstE_zero (f := fun i => prtE (D.P i)) (by omega) i hi
      out := fun i hi => inE_zero (fstE_zero (f := fun i => inE D.nb (D.O i)) (by omega) i hi)
      cyc := h5 }
  · rw [if_neg h5] at h; omega
theorem ns_pos {D : Dia} {i j : Nat} (h : j < ns D i) : (D.B i).k ≠ 0 ∧ j < (D.B i).n := by
  unfold ns at h
  by_cases e : (D.B i).k = 0
  · rw [if_pos e] at h; omega
  · rw [if_neg e] at h; exact ⟨e, h⟩
theorem blkE_open {D : Dia} {S : Nat → Bool} (c : Cyc D) (hS : Cl D S) (i : Nat) (hi : i < D.nb) : blkE (openD D S) ((openD D S).B i) = 0 := by
  show blkE (openD D S) (if S i = true then ⟨2, 1, (D.B i).a, 0, 0, 0, 0⟩ else D.B i) = 0
  cases q : S i with
  | false => rw [if_neg (by decide)]; exact c.be i hi
  | true =>
    rw [if_pos rfl]
    obtain ⟨_, j, hj, _⟩ := hS i hi q
    have hp := ns_pos hj
    have ha := c.arg i hi 0 (by omega)
    unfold cntB at ha
    rw [if_neg hp.1] at ha
    have h0 : inE (D.nb : Int) ((D.B i).a 0) = 0 := if_pos ha
    unfold blkE
    rw [if_neg (by simp), if_neg (by simp [arity])]
    have hf : fstE 1 (fun x => inE (cntB (openD D S) ⟨2, 1, (D.B i).a, 0, 0, 0, 0⟩) ((D.B i).a x)) = 0 := fstE_none fun x hx => by
      obtain rfl : x = 0 := by omega
      exact h0
    rw [if_neg (by simp only [ne_eq, Decidable.not_not]; exact hf)]
    show (if scE (usesV 2) 0 0 ≠ 0 then scE (usesV 2) 0 0 else if scE ((2 : Int) == 11) 0 0 ≠ 0 then scE ((2 : Int) == 11) 0 0 else if (2 : Int) = 11 ∧ gtS 0 0 0 0 = true then 26 else 0) = 0
    rw [show scE (usesV 2) 0 0 = 0 by decide, show scE ((2 : Int) == 11) 0 0 = 0 by decide]
    simp
theorem open_ok {D : Dia} {S : Nat → Bool} (c : Cyc D) (h : Lft D S D.nb) : chk (openD D S) = 0 := by
  have hS := h.fin
  have hbe := blkE_open c hS
  have hw : WF (openD D S) := chk_wf (D := openD D S) c.ni c.nb c.no (fstE_none fun i hi => hbe i hi)
  refine ok_chk { hw with be := fun i hi => hbe i hi, pe := c.pe, out := c.out, cyc := ?_ }
  refine Classical.byContradiction fun q => ?_
  obtain ⟨i, hi, hr⟩ := rest_some (D := openD D S) (by omega)
  have hno : ∀ x, isD (openD D S) x = false → S x = false ∧ isD D x = false ∧ (openD D S).B x = D.B x := fun x hx => by
    have e : (openD D S).B x = if S x = true then ⟨2, 1, (D.B x).a, 0, 0, 0, 0⟩ else D.B x := rfl
    unfold isD at hx ⊢
    cases q2 : S x with
    | true => rw [e, q2] at hx; simp at hx
    | false => rw [q2, if_neg (by decide)] at e; rw [e] at hx; exact ⟨rfl, hx, e⟩
  have hcl : Cl D (rest (openD D S)) := fun x hx hx2 => by
    obtain ⟨h1, j, hj, h2⟩ := rest_cl (openD D S) x hx hx2
    obtain ⟨_, h4, h5⟩ := hno x h1
    unfold ns at hj
    rw [h5] at hj
    unfold sr at h2
    rw [h5] at h2
    exact ⟨h4, j, hj, h2⟩
  have hd : isD (openD D S) i = false := by
    unfold rest at hr; simp only [Bool.and_eq_true, Bool.not_eq_true'] at hr; exact hr.1
  have := h.great _ hcl i hi hr
  rw [(hno i hd).1] at this; cases this
theorem left_some {D : Dia} {S : Nat → Bool} (c : Cyc D) (h : Lft D S D.nb) : ∃ i, i < D.nb ∧ S i = true := by
  obtain ⟨i, hi, hr⟩ := rest_some c.cyc
  exact ⟨i, hi, h.great _ (rest_cl D) i hi hr⟩
end Go.Proofs.YtgajibdmihdkcaaDoor
