/- The texts of numbers, taken apart. -/
import Derived.Test.YtlnphamgmicniaaGreatDoorPrd
import Derived.Test.YtlnphamgmicniaaGreatDoorDec
namespace Go.Proofs.YtlnphamgmicniaaGreatDoor
open Go.RowKit

theorem dec_ne (x : Nat) : Lib.decDigits x ≠ [] := by
  by_cases h : x < 10
  · rw [dec_small h]; simp
  · rw [dec_big h]; simp
theorem chr_nat {x : Nat} (h : x < 10) : (UInt8.ofNat (48 + x)).toNat = 48 + x := by
  rw [UInt8.toNat_ofNat']; omega
theorem dec_digs : ∀ (x : Nat), ∀ c ∈ Lib.decDigits x, isDig c := by
  intro x
  induction x using Nat.strongRecOn with
  | ind x ih =>
    intro c hc
    by_cases h : x < 10
    · rw [dec_small h, List.mem_singleton] at hc
      rw [hc]; unfold isDig; rw [chr_nat h]; omega
    · rw [dec_big h, List.mem_append, List.mem_singleton] at hc
      rcases hc with hc | hc
      · exact ih (x / 10) (by omega) c hc
      · rw [hc]; unfold isDig; rw [chr_nat (by omega)]; omega
theorem dec_val : ∀ (x : Nat), valD (Lib.decDigits x) = x := by
  intro x
  induction x using Nat.strongRecOn with
  | ind x ih =>
    by_cases h : x < 10
    · rw [dec_small h]
      have := valD_snoc [] (UInt8.ofNat (48 + x))
      rw [List.nil_append] at this
      rw [this, chr_nat h]; unfold valD; simp
    · rw [dec_big h, valD_snoc, ih (x / 10) (by omega), chr_nat (by omega)]; omega
theorem dec_head : ∀ (x : Nat), 0 < x → (Lib.decDigits x).head? ≠ some 48 := by
  intro x
  induction x using Nat.strongRecOn with
  | ind x ih =>
    intro hx
    by_cases h : x < 10
    · rw [dec_small h]
      intro e
      simp only [List.head?_cons, Option.some.injEq] at e
      have := congrArg UInt8.toNat e
      rw [chr_nat h] at this
      have h48 : (48 : UInt8).toNat = 48 := rfl
      omega
    · rw [dec_big h]
      have h1 := ih (x / 10) (by omega) (by omega)
      have h2 := dec_ne (x / 10)
      cases hl : Lib.decDigits (x / 10) with
      | nil => exact absurd hl h2
      | cons a r => rw [hl] at h1; simpa using h1
theorem dec_decB (x : Nat) : decB (Lib.decDigits x) = true := by
  unfold decB
  have h1 : (Lib.decDigits x).all digB' = true := List.all_eq_true.2 fun c hc => (digB'_iff c).2 (dec_digs x c hc)
  rw [h1, Bool.true_and]
  by_cases h : x = 0
  · subst h; rw [dec_small (by omega)]; decide
  · have h2 := dec_head x (by omega)
    have h3 := dec_ne x
    simp [h2, h3]
theorem index_digs : ∀ (D r : List UInt8), (∀ c ∈ D, isDig c) → Lib.index (D ++ r) [47, 50, 94] = if Lib.index r [47, 50, 94] = -1 then -1 else Lib.index r [47, 50, 94] + D.length
  | [], r, _ => by
    rw [List.nil_append]; simp
  | c :: D, r, h => by
    have ih := index_digs D r (fun x hx => h x (by simp [hx]))
    have hc := h c (by simp)
    have h47 : (c == (47 : UInt8)) = false := by
      rw [beq_eq_false_iff_ne]; intro e; rw [e] at hc; exact absurd hc.1 (by decide)
    have hge : -1 ≤ Lib.index r [47, 50, 94] := by
      have : ∀ (s t : List UInt8), -1 ≤ Lib.index s t := by
        intro s t
        induction s with
        | nil => unfold Lib.index; split <;> omega
        | cons a s ih => unfold Lib.index; split <;> (try split) <;> simp_all <;> omega
      exact this _ _
    rw [List.cons_append, Lib.index]
    have hp : List.isPrefixOf [47, 50, 94] (c :: (D ++ r)) = false := by
      rw [List.isPrefixOf_cons_cons]
      have : ((47 : UInt8) == c) = false := by rw [beq_eq_false_iff_ne]; intro e; exact absurd e.symm (by simpa using h47)
      rw [this, Bool.false_and]
    rw [hp, ih]
    by_cases hr : Lib.index r [47, 50, 94] = -1
    · rw [if_pos hr, if_pos hr]; simp
    · rw [if_neg hr]
      have hne : ¬ (Lib.index r [47, 50, 94] + (D.length : Int)) = -1 := by omega
      simp [hne]; omega
theorem cutl_none {D : List UInt8} (h : ∀ c ∈ D, isDig c) : Lib.cut D [47, 50, 94] = (D, [], false) := by
  have := index_digs D [] h
  rw [List.append_nil] at this
  have e : Lib.index [] [47, 50, 94] = -1 := by decide
  rw [e, if_pos rfl] at this
  unfold Lib.cut; rw [this, if_neg (by decide)]
theorem cutl_some {D E : List UInt8} (h : ∀ c ∈ D, isDig c) : Lib.cut (D ++ ([47, 50, 94] ++ E)) [47, 50, 94] = (D, E, true) := by
  have := index_digs D ([47, 50, 94] ++ E) h
  have e : Lib.index ([47, 50, 94] ++ E) [47, 50, 94] = 0 := by
    show Lib.index (47 :: (50 :: 94 :: E)) _ = 0
    unfold Lib.index; rw [if_pos (by simp [List.isPrefixOf])]
  rw [e, if_neg (by decide), Int.zero_add] at this
  unfold Lib.cut
  rw [this, if_pos (by omega)]
  simp
/-- A text behind its sign. -/
def bodyL (d : DV) : List UInt8 := Lib.decDigits d.m ++ (if d.den = 0 then [] else [47, 50, 94] ++ Lib.decDigits d.den)
def textL (d : DV) : List UInt8 := (if d.neg = true then [45] else []) ++ bodyL d
theorem txt_bs (d : DV) : txtS d = bs (textL d) := by
  unfold txtS textL bodyL signB digB bs
  by_cases h : d.den = 0 <;> cases hn : d.neg <;> simp [h] <;> (apply ByteArray.ext; simp)
theorem text_prefix (d : DV) : Lib.hasPrefix (textL d) [45] = d.neg ∧ Lib.trimPrefix (textL d) [45] = bodyL d := by
  have hb : Lib.hasPrefix (bodyL d) [45] = false := by
    unfold Lib.hasPrefix bodyL
    cases hl : Lib.decDigits d.m with
    | nil => exact absurd hl (dec_ne _)
    | cons c r =>
      have hc := dec_digs d.m c (by rw [hl]; simp)
      have : ((45 : UInt8) == c) = false := by rw [beq_eq_false_iff_ne]; intro e; rw [← e] at hc; exact absurd hc.1 (by decide)
      rw [List.cons_append, List.isPrefixOf_cons_cons, this, Bool.false_and]
  unfold textL
  cases hn : d.neg with
  | false =>
    have e : (if false = true then [(45 : UInt8)] else []) ++ bodyL d = bodyL d := by simp
    rw [e]; unfold Lib.trimPrefix; rw [hb]; simp
  | true =>
    have e : (if true = true then [(45 : UInt8)] else []) ++ bodyL d = 45 :: bodyL d := by simp
    rw [e]
    have h1 : Lib.hasPrefix (45 :: bodyL d) [45] = true := by unfold Lib.hasPrefix; simp [List.isPrefixOf]
    unfold Lib.trimPrefix; rw [h1]; simp
theorem body_cut (d : DV) : Lib.cut (bodyL d) [47, 50, 94] = (Lib.decDigits d.m, (if d.den = 0 then [] else Lib.decDigits d.den), decide (d.den ≠ 0)) := by
  unfold bodyL
  by_cases h : d.den = 0
  · rw [if_pos h, if_pos h, List.append_nil, cutl_none (dec_digs _)]; simp [h]
  · rw [if_neg h, if_neg h, cutl_some (dec_digs _)]; simp [h]
end Go.Proofs.YtlnphamgmicniaaGreatDoor
