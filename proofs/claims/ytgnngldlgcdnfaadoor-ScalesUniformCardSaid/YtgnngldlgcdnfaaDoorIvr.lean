/- Intervals: Valid and Norm of the reference; the fields of a valid number. -/
import Derived.Test.YtgnngldlgcdnfaaDoorIva
import Derived.Test.YtgnngldlgcdnfaaDoorDyy
import Derived.Test.YtgnngldlgcdnfaaDoorRefhj
namespace Go.Proofs.YtgnngldlgcdnfaaDoor
open Go.RowKit

/-- The fields of a valid number are those of the number as which it counts. -/
theorem nrA_t {neg : Bool} {n : Nat} {f : Nat → Nat} {den : Int} (hb : ∀ i, i < n → f i < 4294967296) (hv : vld neg n f den = true) : (nrA neg n f den).neg = neg ∧ len (nrA neg n f den).m = n ∧ ((nrA neg n f den).den : Int) = den := by
  have e : nrA neg n f den = ⟨neg, valN f n, den.toNat⟩ := by unfold nrA; rw [if_pos hv]
  rw [e]
  refine ⟨rfl, ?_, ?_⟩
  · refine len_valN hb (Nat.le_refl _) (fun i h1 h2 => by omega) ?_
    cases n with
    | zero => exact .inl rfl
    | succ k => rw [vld_succ] at hv; simp at hv; exact .inr (by simpa using hv.1.1.1)
  · show ((den.toNat : Nat) : Int) = den
    cases n with
    | zero => rw [vld_zero] at hv; simp at hv; omega
    | succ k => rw [vld_succ] at hv; simp at hv; have := hv.1.1.2; omega
theorem nrA_len {neg : Bool} {n : Nat} {f : Nat → Nat} {den : Int} (hb : ∀ i, i < n → f i < 4294967296) (hn : n ≤ 1048576) : len (nrA neg n f den).m ≤ 1048576 := by
  by_cases hv : vld neg n f den = true
  · rw [(nrA_t hb hv).2.1]; exact hn
  · unfold nrA; rw [if_neg hv, zero_len]; decide
theorem lim_subE {a b : DV} (ha : a.ok) (hb : b.ok) (la : len a.m ≤ 1048576) (lb : len b.m ≤ 1048576) : len (subD a b).m ≤ 16777216 := by
  have := lim_sub ha.2.1 hb.2.1; omega
end Go.Proofs.YtgnngldlgcdnfaaDoor
