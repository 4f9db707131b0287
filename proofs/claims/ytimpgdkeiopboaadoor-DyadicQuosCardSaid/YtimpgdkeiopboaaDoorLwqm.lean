/- The law DyadicQuos, where there is a quotient. -/
import Derived.Test.YtimpgdkeiopboaaDoorLwqb
import Derived.Test.YtimpgdkeiopboaaDoorQum
import Derived.Test.YtimpgdkeiopboaaDoorFlm
import Derived.Deep.RegionHeld3
namespace Go.Proofs.YtimpgdkeiopboaaDoor
open Go.RowKit

theorem quo_den {a b : DV} {k : Nat} (h : k ≤ 65536) : (quoD a b k).den ≤ k := den_le _ _ _ h
theorem sgn_mul {x y : Rat} (h : x ≤ 0) (hy : 0 < y) : sgn x * sgn y ≤ 0 := by
  have h1 : sgn y = 1 := by unfold sgn; rw [if_neg (by grind), if_pos hy]
  rw [h1, Int.mul_one]; exact le_sgn h
theorem quo_cmp {a b : DV} (ha : a.ok) (k : Nat) (hk : k ≤ 100) (hbd : b.den ≤ 100) (hb0 : b.m ≠ 0) :
    cmpD (mulD (quoD a b k) b) a * signD b ≤ 0 ∧ cmpD a (mulD (addD (quoD a b k) (ofI 1 k)) b) * signD b < 0 := by
  have hq := quoD_ok a b k
  have hd := quo_den (a := a) (b := b) (k := k) (by omega)
  have hg := ofI_ok 1 k
  have hgd : (ofI 1 k).den ≤ k := den_le _ _ _ (by omega)
  have hs := addD_ok (quoD a b k) (ofI 1 k)
  have hsd := den_add (a := quoD a b k) (b := ofI 1 k) (by omega) (by omega)
  have e1 : (mulD (quoD a b k) b).q = (quoD a b k).q * b.q := q_mulD (by omega)
  have e2 : (mulD (addD (quoD a b k) (ofI 1 k)) b).q = ((quoD a b k).q + qOf false 1 k) * b.q := by
    rw [q_mulD (by omega), q_addD hq hg, grid_q k (by omega)]
  rw [cmpD_sgn (mulD_ok _ _) ha, cmpD_sgn ha (mulD_ok _ _), e1, e2, signD_sgn]
  obtain ⟨p, n⟩ := quo_q (a := a) (b := b) (k := k) (by omega) hb0
  have hB := q_pos_of (neg := b.neg) (m := b.m) (k := b.den) hb0
  change if b.neg then b.q < 0 else 0 < b.q at hB
  generalize (quoD a b k).q * b.q = x at *
  generalize ((quoD a b k).q + qOf false 1 k) * b.q = y at *
  cases h : b.neg with
  | false =>
    rw [h] at hB
    have hB' : 0 < b.q := by simpa using hB
    obtain ⟨p1, p2⟩ := p h
    have hs : sgn b.q = 1 := by unfold sgn; rw [if_neg (by grind), if_pos hB']
    rw [hs, Int.mul_one, Int.mul_one]
    exact ⟨le_sgn (by grind), lt_sgn (by grind)⟩
  | true =>
    rw [h] at hB
    have hB' : b.q < 0 := by simpa using hB
    obtain ⟨p1, p2⟩ := n h
    have hs : sgn b.q = -1 := by unfold sgn; rw [if_pos hB']
    rw [hs]
    have t1 := ge_sgn (r := x - a.q) (by grind)
    have t2 : sgn (a.q - y) = 1 := by unfold sgn; rw [if_neg (by grind), if_pos (by grind)]
    rw [t2]
    exact ⟨by omega, by omega⟩
theorem sgn_bd (r : Rat) : -1 ≤ sgn r ∧ sgn r ≤ 1 := by unfold sgn; split; decide; split <;> decide
end Go.Proofs.YtimpgdkeiopboaaDoor
