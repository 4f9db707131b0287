/- Diagrams: what is reached along arguments: by a search and by rounds of marks (off any program). -/
import Derived.Test.YtgajibdmihdkcaaDoorDga
namespace Go.Proofs.YtgajibdmihdkcaaDoor

/-- A way of going on: block i leads to the blocks nx i j for j < nn i. -/
structure Nx where
  nn : Nat → Nat
  nx : Nat → Nat → Nat
/-- Closed sets. -/
def Clo (nb : Nat) (N : Nx) (T : Nat → Bool) : Prop := ∀ i, i < nb → T i = true → ∀ j, j < N.nn i → T (N.nx i j) = true
/-- The least closed set with st in it. -/
structure IsR (nb : Nat) (N : Nx) (st S : Nat → Bool) : Prop where
  stt : ∀ i, st i = true → S i = true
  clo : Clo nb N S
  least : ∀ T, Clo nb N T → (∀ i, st i = true → T i = true) → ∀ i, S i = true → T i = true
theorem IsR.uniq {nb : Nat} {N : Nx} {st S S' : Nat → Bool} (h : IsR nb N st S) (h' : IsR nb N st S') (i : Nat) : S i = S' i := by
  rw [Bool.eq_iff_iff]
  exact ⟨h.least S' h'.clo h'.stt i, h'.least S h.clo h.stt i⟩
theorem IsR.congr {nb : Nat} {N N' : Nx} {st st' S : Nat → Bool} (h : IsR nb N st S) (e1 : ∀ i, i < nb → N.nn i = N'.nn i) (e2 : ∀ i j, i < nb → j < N.nn i → N.nx i j = N'.nx i j) (e3 : ∀ i, st i = st' i) : IsR nb N' st' S := by
  have hc : ∀ T, Clo nb N T ↔ Clo nb N' T := fun T => ⟨fun h i hi ht j hj => by rw [← e2 i j hi (by rw [e1 i hi]; exact hj)]; exact h i hi ht j (by rw [e1 i hi]; exact hj),
    fun h i hi ht j hj => by rw [e2 i j hi hj]; exact h i hi ht j (by rw [← e1 i hi]; exact hj)⟩
  exact ⟨fun i hi => h.stt i (by rw [e3]; exact hi), (hc _).1 h.clo, fun T hT hs i hi => h.least T ((hc _).2 hT) (fun i hi => hs i (by rw [← e3]; exact hi)) i hi⟩

/-- The going on of a diagram: within a tick, or over ticks. -/
def nxD (D : Dia) (over : Bool) : Nx := ⟨fun i => if over = false ∧ isD D i = true then 0 else ns D i, sr D⟩
def nxW (D : Dia) : Nx := nxD D false
theorem WF.nxlt {D : Dia} (h : WF D) {over : Bool} {i j : Nat} (hi : i < D.nb) (hj : j < (nxD D over).nn i) : (nxD D over).nx i j < D.nb ∧ (nxD D over).nn i ≤ 2 ∧ j < ns D i := by
  unfold nxD at hj ⊢
  simp only at hj ⊢
  by_cases q : over = false ∧ isD D i = true
  · rw [if_pos q] at hj; omega
  · rw [if_neg q] at hj ⊢
    have := h.src hi hj
    exact ⟨this.2.1, this.2.2, hj⟩

/-! ### By a search -/
/-- What a search keeps: found F, listed L, waiting W (all below nb). -/
structure Dfs (nb : Nat) (N : Nx) (st : Nat → Bool) (F : Nat → Bool) (L W : List Nat) : Prop where
  mem : ∀ i, F i = true ↔ i ∈ L
  lt : ∀ i, i ∈ L ∨ i ∈ W → i < nb
  stt : ∀ i, st i = true → i ∈ L ∨ i ∈ W
  clo : ∀ i, i ∈ L → ∀ j, j < N.nn i → N.nx i j ∈ L ∨ N.nx i j ∈ W
  least : ∀ T, Clo nb N T → (∀ i, st i = true → T i = true) → ∀ i, i ∈ L ∨ i ∈ W → T i = true
  nodup : L.Nodup
theorem Dfs.start {nb : Nat} {N : Nx} {st : Nat → Bool} {W : List Nat} (hlt : ∀ i, i ∈ W → i < nb) (hst : ∀ i, st i = true ↔ i ∈ W) : Dfs nb N st (fun _ => false) [] W where
  mem := fun i => by simp
  lt := fun i hi => by rcases hi with h | h; cases h; exact hlt i h
  stt := fun i hi => .inr ((hst i).1 hi)
  clo := fun i hi => by cases hi
  least := fun T _ hs i hi => by rcases hi with h | h; cases h; exact hs i ((hst i).2 h)
  nodup := List.nodup_nil
theorem Dfs.skip {nb : Nat} {N : Nx} {st F : Nat → Bool} {L W : List Nat} {i : Nat} (h : Dfs nb N st F L (W ++ [i])) (hf : F i = true) : Dfs nb N st F L W := by
  have hi := (h.mem i).1 hf
  have hw : ∀ x, x ∈ L ∨ x ∈ W ++ [i] ↔ x ∈ L ∨ x ∈ W := fun x => by
    rw [List.mem_append]
    constructor
    · rintro (a | a | a)
      · exact .inl a
      · exact .inr a
      · rw [List.mem_singleton] at a; subst a; exact .inl hi
    · rintro (a | a)
      · exact .inl a
      · exact .inr (.inl a)
  exact ⟨h.mem, fun x hx => h.lt x ((hw x).2 hx), fun x hx => (hw x).1 (h.stt x hx), fun x hx j hj => (hw _).1 (h.clo x hx j hj), fun T a b x hx => h.least T a b x ((hw x).2 hx), h.nodup⟩
theorem Dfs.take {nb : Nat} {N : Nx} {st F : Nat → Bool} {L W V : List Nat} {i : Nat} (h : Dfs nb N st F L (W ++ [i])) (hf : F i = false) (hV : ∀ x, x ∈ V ↔ ∃ j, j < N.nn i ∧ x = N.nx i j)
    (hlt : ∀ j, j < N.nn i → N.nx i j < nb) : Dfs nb N st (fun x => if x = i then true else F x) (L ++ [i]) (W ++ V) := by
  have hil : i ∉ L := fun q => by rw [(h.mem i).2 q] at hf; cases hf
  have hi : i < nb := h.lt i (.inr (by simp))
  have hw : ∀ x, x ∈ L ∨ x ∈ W ++ [i] → x ∈ L ++ [i] ∨ x ∈ W ++ V := fun x hx => by
    rw [List.mem_append] at hx ⊢; rw [List.mem_append]
    rcases hx with a | a | a
    · exact .inl (.inl a)
    · exact .inr (.inl a)
    · exact .inl (.inr a)
  refine ⟨fun x => ?_, fun x hx => ?_, fun x hx => hw x (h.stt x hx), fun x hx j hj => ?_, fun T a b x hx => ?_, ?_⟩
  · rw [List.mem_append, List.mem_singleton]
    by_cases e : x = i
    · simp [e]
    · rw [if_neg e, h.mem x]; simp [e]
  · rw [List.mem_append, List.mem_append, List.mem_singleton] at hx
    rcases hx with (a | rfl) | a | a
    · exact h.lt x (.inl a)
    · exact hi
    · exact h.lt x (.inr (by simp [a]))
    · obtain ⟨j, hj, rfl⟩ := (hV x).1 a; exact hlt j hj
  · rw [List.mem_append, List.mem_singleton] at hx
    rcases hx with a | rfl
    · exact hw _ (h.clo x a j hj)
    · exact .inr (List.mem_append.2 (.inr ((hV _).2 ⟨j, hj, rfl⟩)))
  · rw [List.mem_append, List.mem_append, List.mem_singleton] at hx
    have hTi := h.least T a b i (.inr (by simp))
    rcases hx with (c | rfl) | c | c
    · exact h.least T a b x (.inl c)
    · exact hTi
    · exact h.least T a b x (.inr (by simp [c]))
    · obtain ⟨j, hj, rfl⟩ := (hV x).1 c; exact a i hi hTi j hj
  · rw [List.nodup_append]
    refine ⟨h.nodup, by simp, fun a ha b hb => ?_⟩
    rw [List.mem_singleton] at hb
    subst hb
    intro e; subst e; exact hil ha
theorem Dfs.fin {nb : Nat} {N : Nx} {st F : Nat → Bool} {L : List Nat} (h : Dfs nb N st F L []) : IsR nb N st F := by
  refine ⟨fun i hi => (h.mem i).2 ?_, fun i hi ht j hj => (h.mem _).2 ?_, fun T a b i hi => h.least T a b i (.inl ((h.mem i).1 hi))⟩
  · rcases h.stt i hi with q | q
    · exact q
    · cases q
  · rcases h.clo i ((h.mem i).1 ht) j hj with q | q
    · exact q
    · cases q
/-- Rounds that are left. -/
def msr (nb : Nat) (F : Nat → Bool) (n : Nat) : Nat := 3 * cnt nb (fun i => !F i) + n
theorem msr_take {nb : Nat} {F : Nat → Bool} {i n m : Nat} (hi : i < nb) (hf : F i = false) (hm : m ≤ 2) : msr nb (fun x => if x = i then true else F x) (n + m) < msr nb F (n + 1) := by
  have := cnt_put (n := nb) (j := i) (p := fun x => !(if x = i then true else F x)) (q := fun x => !F x) hi (by simp) (by simp [hf]) (fun x hx => by simp [hx])
  unfold msr; simp only [] at this ⊢; omega

/-! ### Sorted lists -/
theorem perm_mkL {nb : Nat} {F : Nat → Bool} {L : List Nat} (hm : ∀ i, F i = true ↔ i ∈ L) (hlt : ∀ i, i ∈ L → i < nb) (hn : L.Nodup) : (mkL nb F).Perm L := by
  have nd : ∀ n, (mkL n F).Nodup := fun n => by
    induction n with
    | zero => exact List.nodup_nil
    | succ n ih =>
      unfold mkL
      rw [List.nodup_append]
      refine ⟨ih, by split <;> simp, fun a ha b hb => ?_⟩
      have := (mem_mkL.1 ha).1
      split at hb
      · rw [List.mem_singleton] at hb; omega
      · cases hb
  rw [List.perm_ext_iff_of_nodup (nd nb) hn]
  intro a
  rw [mem_mkL, hm a]
  exact ⟨fun h => h.2, fun h => ⟨hlt a h, h⟩⟩
theorem mkL_sorted (n : Nat) (p : Nat → Bool) : (mkL n p).Pairwise (· < ·) := by
  induction n with
  | zero => exact List.Pairwise.nil
  | succ n ih =>
    unfold mkL
    rw [List.pairwise_append]
    refine ⟨ih, by split <;> simp, fun a ha b hb => ?_⟩
    have := (mem_mkL.1 ha).1
    split at hb
    · rw [List.mem_singleton] at hb; omega
    · cases hb

/-! ### By rounds of marks -/
/-- What the rounds keep: after r rounds, within a round at block i, where M0 was marked when the round began. -/
structure Mrk (nb : Nat) (N : Nx) (st M : Nat → Bool) (r : Nat) : Prop where
  stt : ∀ i, st i = true → M i = true
  least : ∀ T, Clo nb N T → (∀ i, st i = true → T i = true) → ∀ i, M i = true → T i = true
  much : Clo nb N M ∨ r ≤ cnt nb M
theorem Mrk.start {nb : Nat} {N : Nx} {st : Nat → Bool} : Mrk nb N st st 0 := ⟨fun _ h => h, fun _ _ h => h, .inr (Nat.zero_le _)⟩
structure MrkI (nb : Nat) (N : Nx) (st M0 M : Nat → Bool) (i : Nat) : Prop where
  stt : ∀ i, st i = true → M i = true
  least : ∀ T, Clo nb N T → (∀ i, st i = true → T i = true) → ∀ i, M i = true → T i = true
  sub : ∀ i, M0 i = true → M i = true
  done : ∀ k, k < i → M0 k = true → ∀ j, j < N.nn k → M (N.nx k j) = true
theorem Mrk.go {nb : Nat} {N : Nx} {st M : Nat → Bool} {r : Nat} (h : Mrk nb N st M r) : MrkI nb N st M M 0 := ⟨h.stt, h.least, fun _ h => h, fun k hk => absurd hk (by omega)⟩
theorem MrkI.next {nb : Nat} {N : Nx} {st M0 M M' : Nat → Bool} {i : Nat} (h : MrkI nb N st M0 M i) (hi : i < nb) (hs : ∀ k, M k = true → M' k = true) (hd : M i = true → ∀ j, j < N.nn i → M' (N.nx i j) = true)
    (hl : ∀ k, M' k = true → M k = true ∨ (M i = true ∧ ∃ j, j < N.nn i ∧ k = N.nx i j)) : MrkI nb N st M0 M' (i + 1) where
  stt := fun k hk => hs k (h.stt k hk)
  least := fun T a b k hk => by
    rcases hl k hk with c | ⟨c, j, hj, rfl⟩
    · exact h.least T a b k c
    · exact a i hi (h.least T a b i c) j hj
  sub := fun k hk => hs k (h.sub k hk)
  done := fun k hk h0 j hj => by
    by_cases e : k = i
    · subst e; exact hd (h.sub k h0) j hj
    · exact hs _ (h.done k (by omega) h0 j hj)
theorem MrkI.end_ {nb : Nat} {N : Nx} {st M0 M : Nat → Bool} {r : Nat} (h0 : Mrk nb N st M0 r) (h : MrkI nb N st M0 M nb) : Mrk nb N st M (r + 1) where
  stt := h.stt
  least := h.least
  much := by
    by_cases q : cnt nb M ≤ cnt nb M0
    · left
      intro k hk hm j hj
      exact h.done k hk (cnt_eq (fun i _ => h.sub i) q k hk hm) j hj
    · rcases h0.much with c | c
      · left
        intro k hk hm j hj
        have hT : M0 k = true := h.least M0 c h0.stt k hm
        exact h.done k hk hT j hj
      · right; omega
theorem Mrk.fin {nb : Nat} {N : Nx} {st M : Nat → Bool} (h : Mrk nb N st M nb) (hlt : ∀ i j, i < nb → j < N.nn i → N.nx i j < nb) : IsR nb N st M := by
  refine ⟨h.stt, ?_, h.least⟩
  rcases h.much with c | c
  · exact c
  · intro i hi _ j hj
    exact cnt_all c _ (hlt i j hi hj)
end Go.Proofs.YtgajibdmihdkcaaDoor
