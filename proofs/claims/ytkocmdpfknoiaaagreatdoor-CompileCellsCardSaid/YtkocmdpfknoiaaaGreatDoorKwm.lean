/- Sorted lists without neighbours that are equal (off any program). -/
import Derived.Test.YtkocmdpfknoiaaaGreatDoorKda
import Derived.Lib.SlicesCompact
namespace Go.Proofs.YtkocmdpfknoiaaaGreatDoor
open Go.Lib

/-- Two strictly ascending lists of the same numbers are the same. -/
theorem strict_eq : ∀ {L M : List Int}, L.Pairwise (· < ·) → M.Pairwise (· < ·) → (∀ x, x ∈ L ↔ x ∈ M) → L = M
  | [], [], _, _, _ => rfl
  | [], b :: M, _, _, h => by have := (h b).2 (List.mem_cons_self ..); cases this
  | a :: L, [], _, _, h => by have := (h a).1 (List.mem_cons_self ..); cases this
  | a :: L, b :: M, hL, hM, h => by
    rw [List.pairwise_cons] at hL hM
    have e : a = b := by
      have h1 := (h a).1 (List.mem_cons_self ..)
      have h2 := (h b).2 (List.mem_cons_self ..)
      rw [List.mem_cons] at h1 h2
      rcases h1 with h1 | h1
      · exact h1
      · rcases h2 with h2 | h2
        · exact h2.symm
        · have := hM.1 a h1; have := hL.1 b h2; omega
    subst e
    rw [strict_eq hL.2 hM.2 (fun x => ?_)]
    have hx := h x
    rw [List.mem_cons, List.mem_cons] at hx
    constructor
    · intro hm
      rcases hx.1 (.inr hm) with q | q
      · have := hL.1 x hm; omega
      · exact q
    · intro hm
      rcases hx.2 (.inr hm) with q | q
      · have := hM.1 x hm; omega
      · exact q

/-- What is left of an ascending list when equal neighbours are dropped: as a fold from the left. -/
theorem cu_step (d : Array Int) (m : Nat) : compactUpTo d (m + 1) = compactUpTo d m ++ (if keeps d m then [d[m]!] else []) := compactUpTo_succ d m
theorem cu_facts (d : Array Int) (hs : ∀ i j, i < j → j < d.size → d[i]! ≤ d[j]!) : ∀ m, m ≤ d.size → (compactUpTo d m).Pairwise (· < ·) ∧ (∀ x, x ∈ compactUpTo d m ↔ ∃ i, i < m ∧ d[i]! = x)
  | 0, _ => ⟨by simp [compactUpTo], fun x => by simp [compactUpTo]⟩
  | m + 1, hm => by
    obtain ⟨h1, h2⟩ := cu_facts d hs m (by omega)
    rw [cu_step]
    by_cases hk : keeps d m = true
    · rw [if_pos hk]
      have hlt : ∀ x ∈ compactUpTo d m, x < d[m]! := fun x hx => by
        obtain ⟨i, hi, rfl⟩ := (h2 x).1 hx
        have hne : d[m - 1]! ≠ d[m]! := by
          intro e
          have h0 : m ≠ 0 := by omega
          simp [keeps, h0] at hk
          exact hk e.symm
        have h3 : d[m - 1]! ≤ d[m]! := hs _ _ (by omega) (by omega)
        by_cases q : i = m - 1
        · subst q; omega
        · have := hs i (m - 1) (by omega) (by omega); omega
      refine ⟨List.pairwise_append.2 ⟨h1, by simp, fun x hx y hy => ?_⟩, fun x => ?_⟩
      · rw [List.mem_singleton] at hy; subst hy; exact hlt x hx
      · rw [List.mem_append, h2, List.mem_singleton]
        constructor
        · rintro (⟨i, hi, rfl⟩ | rfl)
          · exact ⟨i, by omega, rfl⟩
          · exact ⟨m, by omega, rfl⟩
        · rintro ⟨i, hi, rfl⟩
          by_cases q : i = m
          · subst q; exact .inr rfl
          · exact .inl ⟨i, by omega, rfl⟩
    · rw [if_neg hk, List.append_nil]
      refine ⟨h1, fun x => ?_⟩
      rw [h2]
      constructor
      · rintro ⟨i, hi, rfl⟩; exact ⟨i, by omega, rfl⟩
      · rintro ⟨i, hi, rfl⟩
        by_cases q : i = m
        · subst q
          have h0 : i ≠ 0 := by intro e; subst e; simp [keeps] at hk
          have e : d[i]! = d[i - 1]! := by simpa [keeps, h0] using hk
          exact ⟨i - 1, by omega, e.symm⟩
        · exact ⟨i, by omega, rfl⟩
theorem compact_facts {zs : List Int} (hs : zs.Pairwise (· ≤ ·)) : (compact zs).Pairwise (· < ·) ∧ ∀ x, x ∈ compact zs ↔ x ∈ zs := by
  have h := cu_facts zs.toArray (fun i j hij hj => by
    have hj' : j < zs.length := by simpa using hj
    have := List.pairwise_iff_getElem.1 hs i j (by omega) hj' hij
    simpa [getElem!_def, List.getElem?_eq_getElem hj', List.getElem?_eq_getElem (show i < zs.length by omega)] using this) zs.length (by simp)
  refine ⟨h.1, fun x => ?_⟩
  show x ∈ compactUpTo zs.toArray zs.length ↔ _
  rw [h.2]
  constructor
  · rintro ⟨i, hi, rfl⟩
    have : zs.toArray[i]! = zs[i] := by simp [getElem!_def, List.getElem?_eq_getElem hi]
    rw [this]; exact List.getElem_mem hi
  · intro hx
    obtain ⟨i, hi, rfl⟩ := List.mem_iff_getElem.1 hx
    exact ⟨i, hi, by simp [getElem!_def, List.getElem?_eq_getElem hi]⟩
/-- The cells that some instruction writes. -/
def wrB (ni : Nat) (X : Nat → Ins) (i : Nat) : Bool := decide (0 ≤ fstI ni (fun j => (X j).dst == (i : Int)))
theorem wrB_iff {ni : Nat} {X : Nat → Ins} {i : Nat} : wrB ni X i = true ↔ ∃ j, j < ni ∧ (X j).dst = i := by
  unfold wrB
  rw [decide_eq_true_iff]
  rcases fstI_cases ni (fun j => (X j).dst == (i : Int)) with ⟨h1, h2⟩ | ⟨j, h1, h2, h3, _⟩
  · constructor
    · intro h; omega
    · rintro ⟨j, hj, hd⟩; have := h2 j hj; rw [hd] at this; simp at this
  · constructor
    · intro _; exact ⟨j, h1, by simpa using h3⟩
    · intro _; omega
def dsL (ni : Nat) (X : Nat → Ins) : List Int := (List.range ni).map fun j => (X j).dst
theorem dsL_sort {ni nc : Nat} {X : Nat → Ins} (h : ∀ j, j < ni → 0 ≤ (X j).dst ∧ (X j).dst < nc) : compact ((dsL ni X).mergeSort fun x y => decide (x ≤ y)) = (mkL nc (wrB ni X)).map (fun (i : Nat) => (i : Int)) := by
  have hs : ((dsL ni X).mergeSort fun x y => decide (x ≤ y)).Pairwise (· ≤ ·) := by
    have := List.pairwise_mergeSort (le := fun x y : Int => decide (x ≤ y)) (fun a b c h1 h2 => by simp at *; omega) (fun a b => by simp; omega) (dsL ni X)
    exact this.imp fun h => by simpa using h
  obtain ⟨h1, h2⟩ := compact_facts hs
  refine strict_eq h1 ?_ fun x => ?_
  · rw [List.pairwise_map]
    exact (mkL_sorted nc (wrB ni X)).imp fun h => by omega
  · rw [h2, List.mem_mergeSort, List.mem_map]
    constructor
    · intro hx
      obtain ⟨j, hj, rfl⟩ := List.mem_map.1 hx
      have hj' : j < ni := by simpa using hj
      obtain ⟨q1, q2⟩ := h j hj'
      exact ⟨(X j).dst.toNat, mem_mkL.2 ⟨by omega, wrB_iff.2 ⟨j, hj', by omega⟩⟩, by show (((X j).dst.toNat : Nat) : Int) = (X j).dst; omega⟩
    · rintro ⟨i, hi, rfl⟩
      obtain ⟨j, hj, hd⟩ := wrB_iff.1 (mem_mkL.1 hi).2
      exact List.mem_map.2 ⟨j, by simpa using hj, hd⟩
end Go.Proofs.YtkocmdpfknoiaaaGreatDoor
