/- A text that is read is the text of what was read. Plain mathematics. -/
import Derived.Test.YtlnphamgmicniaaGreatDoorPri
import Derived.Test.YtlnphamgmicniaaGreatDoorPrh
namespace Go.Proofs.YtlnphamgmicniaaGreatDoor
open Go.RowKit

theorem cut_join (s : List UInt8) : s = (Lib.cut s [47, 50, 94]).1 ++ (if (Lib.cut s [47, 50, 94]).2.2 = true then [47, 50, 94] ++ (Lib.cut s [47, 50, 94]).2.1 else []) := by
  rcases Lib.index_spec s [47, 50, 94] with ⟨h, _⟩ | ⟨i, h, hi, ho, _⟩
  · unfold Lib.cut; rw [h, if_neg (by decide)]; simp
  · unfold Lib.cut; rw [h, if_pos (by omega)]
    simp only [Int.toNat_natCast, if_true]
    have h1 : List.isPrefixOf [47, 50, 94] (s.drop i) = true := ho
    obtain ⟨r, hr⟩ := List.isPrefixOf_iff_prefix.1 h1
    have h2 : s.drop (i + ([47, 50, 94] : List UInt8).length) = r := by
      rw [← List.drop_drop, ← hr, List.drop_left]
    rw [h2, hr, List.take_append_drop]
theorem trim_join (l : List UInt8) : l = (if Lib.hasPrefix l [45] = true then [45] else []) ++ Lib.trimPrefix l [45] := by
  unfold Lib.trimPrefix
  by_cases h : Lib.hasPrefix l [45] = true
  · rw [if_pos h, if_pos h]
    obtain ⟨r, hr⟩ := List.isPrefixOf_iff_prefix.1 h
    rw [← hr]; rfl
  · rw [if_neg h, if_neg h]; rfl
/-- What was read, as a number. -/
def TX.dv (t : TX) : DV := ⟨t.neg, valD t.body, t.den⟩
theorem text_back {l : List UInt8} (hb : decB (txOf l).body = true) (hp : (txOf l).powOk) : textL (txOf l).dv = l := by
  have h1 := trim_join l
  have h2 := cut_join (Lib.trimPrefix l [45])
  have e1 : Lib.decDigits (valD (txOf l).body) = (txOf l).body := dec_back hb
  show (if (txOf l).neg = true then [45] else []) ++ (Lib.decDigits (valD (txOf l).body) ++ (if (txOf l).den = 0 then [] else [47, 50, 94] ++ Lib.decDigits (txOf l).den)) = l
  rw [e1]
  have e2 : (if (txOf l).den = 0 then [] else [47, 50, 94] ++ Lib.decDigits (txOf l).den) = (if (txOf l).fr = true then [47, 50, 94] ++ (txOf l).pow else []) := by
    by_cases hf : (txOf l).fr = true
    · obtain ⟨h3, h4, _⟩ := hp hf
      have e : (txOf l).den = valD (txOf l).pow := by unfold TX.den; rw [if_pos hf]
      rw [e, if_neg (by omega), if_pos hf, dec_back h3]
    · have e : (txOf l).den = 0 := by unfold TX.den; rw [if_neg hf]
      rw [e, if_pos rfl, if_neg hf]
  rw [e2]
  refine Eq.trans ?_ h1.symm
  refine Eq.trans ?_ (congrArg _ h2.symm)
  rfl
end Go.Proofs.YtlnphamgmicniaaGreatDoor
