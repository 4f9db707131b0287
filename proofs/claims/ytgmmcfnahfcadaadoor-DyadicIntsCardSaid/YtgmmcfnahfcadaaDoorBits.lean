/- Bits of words of 32 and 64 bits. -/
import Derived.Test.YtgmmcfnahfcadaaDoorMem
namespace Go.Proofs.YtgmmcfnahfcadaaDoor
open Go.RowKit

/-- The highest bit of 32. -/
def hb (z : Int) : Bool := decide (2147483648 ≤ z % 4294967296)
theorem hb_of (z : Int) : (BitVec.ofInt 32 z).msb = hb z := by
  unfold hb
  rw [BitVec.msb_eq_decide, BitVec.toNat_ofInt]
  have : 0 ≤ z % 4294967296 := Int.emod_nonneg _ (by decide)
  simp
  omega
theorem w32 (v : BitVec 32) : IntKind.u32.wrap (v.toNat : Int) = (v.toNat : Int) := by
  have := v.isLt
  rw [show IntKind.u32.wrap (v.toNat : Int) = (v.toNat : Int) % 4294967296 from rfl]
  omega
theorem hb_toNat (v : BitVec 32) : hb (v.toNat : Int) = v.msb := by
  rw [BitVec.msb_eq_decide]; unfold hb
  have := v.isLt
  simp; omega
theorem bits_or32 (a b : Int) : bits .or .u32 a b = ((BitVec.ofInt 32 a ||| BitVec.ofInt 32 b).toNat : Int) := w32 _
theorem bits_and32 (a b : Int) : bits .and .u32 a b = ((BitVec.ofInt 32 a &&& BitVec.ofInt 32 b).toNat : Int) := w32 _
theorem bits_xor32 (a b : Int) : bits .xor .u32 a b = ((BitVec.ofInt 32 a ^^^ BitVec.ofInt 32 b).toNat : Int) := w32 _
theorem hb_or (a b : Int) : hb (bits .or .u32 a b) = (hb a || hb b) := by rw [bits_or32, hb_toNat, BitVec.msb_or, hb_of, hb_of]
theorem hb_and (a b : Int) : hb (bits .and .u32 a b) = (hb a && hb b) := by rw [bits_and32, hb_toNat, BitVec.msb_and, hb_of, hb_of]
theorem hb_xor (a b : Int) : hb (bits .xor .u32 a b) = (hb a ^^ hb b) := by rw [bits_xor32, hb_toNat, BitVec.msb_xor, hb_of, hb_of]
theorem hb_max : hb IntKind.u32.max = true := by decide
theorem or_top (a b : Int) : bits .or .u32 a b / 2147483648 = if (hb a || hb b) then 1 else 0 := by
  have h := hb_or a b
  rw [← h, bits_or32]
  have := (BitVec.ofInt 32 a ||| BitVec.ofInt 32 b).isLt
  generalize (BitVec.ofInt 32 a ||| BitVec.ofInt 32 b).toNat = n at *
  unfold hb
  by_cases e : 2147483648 ≤ (n : Int) % 4294967296 <;> simp [e] <;> omega

/-- The or of two words that are natural numbers. -/
theorem or_nat32 {a b : Nat} (ha : a < 4294967296) (hb : b < 4294967296) : bits .or .u32 (a : Int) (b : Int) = ((a ||| b : Nat) : Int) := by
  rw [bits_or32, BitVec.toNat_or]
  congr 1
  have e1 : (BitVec.ofInt 32 (a : Int)).toNat = a := by rw [BitVec.ofInt_natCast, BitVec.toNat_ofNat]; exact Nat.mod_eq_of_lt ha
  have e2 : (BitVec.ofInt 32 (b : Int)).toNat = b := by rw [BitVec.ofInt_natCast, BitVec.toNat_ofNat]; exact Nat.mod_eq_of_lt hb
  rw [e1, e2]
theorem w64 (v : BitVec 64) : IntKind.u64.wrap (v.toNat : Int) = (v.toNat : Int) := by
  have := v.isLt
  rw [show IntKind.u64.wrap (v.toNat : Int) = (v.toNat : Int) % 18446744073709551616 from rfl]
  omega
theorem or_nat64 {a b : Nat} (ha : a < 18446744073709551616) (hb : b < 18446744073709551616) : bits .or .u64 (a : Int) (b : Int) = ((a ||| b : Nat) : Int) := by
  rw [show bits .or .u64 (a : Int) (b : Int) = ((BitVec.ofInt 64 (a : Int) ||| BitVec.ofInt 64 (b : Int)).toNat : Int) from w64 _, BitVec.toNat_or]
  congr 1
  have e1 : (BitVec.ofInt 64 (a : Int)).toNat = a := by rw [BitVec.ofInt_natCast, BitVec.toNat_ofNat]; exact Nat.mod_eq_of_lt ha
  have e2 : (BitVec.ofInt 64 (b : Int)).toNat = b := by rw [BitVec.ofInt_natCast, BitVec.toNat_ofNat]; exact Nat.mod_eq_of_lt hb
  rw [e1, e2]
theorem and_one32 {a : Nat} (ha : a < 4294967296) : bits .and .u32 (a : Int) 1 = ((a % 2 : Nat) : Int) := by
  rw [bits_and32, BitVec.toNat_and]
  congr 1
  have e1 : (BitVec.ofInt 32 (a : Int)).toNat = a := by rw [BitVec.ofInt_natCast, BitVec.toNat_ofNat]; exact Nat.mod_eq_of_lt ha
  rw [e1, show (BitVec.ofInt 32 (1 : Int)).toNat = 1 by decide, Nat.and_one_is_mod]

def brw (x y c : Nat) : Nat := if x < y + c then 1 else 0
theorem brw_step {x y c : Nat} (hx : x < 4294967296) (hy : y < 4294967296) (hc : c ≤ 1) : (x + 4294967296 - y - c) % 4294967296 + y + c = x + brw x y c * 4294967296 ∧ brw x y c ≤ 1 := by
  unfold brw; split <;> omega
/-- The borrow of math/bits.Sub32. -/
theorem borrow32 {x y c : Nat} (hx : x < 4294967296) (hy : y < 4294967296) (hc : c ≤ 1) :
    bits BinOp.or IntKind.u32 (bits BinOp.and IntKind.u32 (bits BinOp.xor IntKind.u32 IntKind.u32.max ↑x) ↑y)
      (bits BinOp.and IntKind.u32 (bits BinOp.xor IntKind.u32 IntKind.u32.max (bits BinOp.xor IntKind.u32 ↑x ↑y)) (((x : Int) - y - c) % 4294967296)) / 2147483648 = (brw x y c : Int) := by
  unfold brw
  rw [or_top, hb_and, hb_and, hb_xor, hb_xor, hb_xor, hb_max]
  unfold hb
  by_cases h1 : 2147483648 ≤ (x : Int) % 4294967296 <;> by_cases h2 : 2147483648 ≤ (y : Int) % 4294967296 <;> by_cases h3 : 2147483648 ≤ ((x : Int) - y - c) % 4294967296 % 4294967296 <;> by_cases h4 : x < y + c <;> simp [h1, h2, h4] <;> omega

end Go.Proofs.YtgmmcfnahfcadaaDoor
