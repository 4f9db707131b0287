/- Directions against the powers of two vectors: what is checked by the kernel. -/
import Derived.Test.YtecpkggnjajppaaDoorArca
namespace Go.Proofs.YtecpkggnjajppaaDoor
open Go.RowKit

def tst (x y c s : Int) : Bool := decide (0 < x * c + y * s) && (decide (-(x * c + y * s) ≤ 18700 * (x * s - y * c)) && decide (18700 * (x * s - y * c) ≤ x * c + y * s))
def chk : Nat → Nat → Int → Int → Bool
  | 0, _, _, _ => true
  | n + 1, a, x, y => tst x y (cs a) (sn a) && chk n (a + 1) (x * 20861 - y * 2) (x * 2 + y * 20861)
def chk2 : Nat → Nat → Int → Int → Bool
  | 0, _, _, _ => true
  | n + 1, k, x, y => chk 256 (256 * k) x y && chk2 n (k + 1) (x * 6314 - y * 155) (x * 155 + y * 6314)
theorem chk_all : chk2 129 0 1 0 = true := by decide +kernel
end Go.Proofs.YtecpkggnjajppaaDoor
