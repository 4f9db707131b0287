/- Memory: slices that read as words, and blocks of the call's own. -/
import Derived.Test.YtkocmdpfknoiaaaGreatDoorNum
import Derived.Test.YtkocmdpfknoiaaaGreatDoorMbig
import Derived.Test.YtkocmdpfknoiaaaGreatDoorRows
import Derived.Deep.AppendLies
import Derived.Deep.RegionHeld3
import Derived.Deep.RegionWith
import Derived.Laws.OwnMore
import Derived.Laws.MakeOwn
import Derived.OwnWalk
namespace Go.Proofs.YtkocmdpfknoiaaaGreatDoor

/-! ### Mem -/
section
open Go.RowKit

abbrev U4 (n : Nat) : Value := .int .u32 n
abbrev U8 (n : Nat) : Value := .int .u64 n

/-- The first n words behind A are those of f. -/
def Rd (w : World) (A : Option Addr) (n : Nat) (f : Nat → Nat) : Prop :=
  0 < n → ∃ b o, A = some ⟨b, o, none⟩ ∧ b < w.heap.size ∧ ∀ i, i < n → w.cell? ⟨b, o + i, none⟩ = some (U4 (f i))
theorem Rd.none_ {w : World} {A : Option Addr} {f : Nat → Nat} : Rd w A 0 f := fun h => absurd h (by omega)
theorem Rd.ext {w w' : World} {A : Option Addr} {n : Nat} {f : Nat → Nat} (h : Rd w A n f) (e : Ext w w') : Rd w' A n f := fun hn => by
  obtain ⟨b, o, rfl, hb, hc⟩ := h hn
  exact ⟨b, o, rfl, Nat.lt_of_lt_of_le hb e.size, fun i hi => (e.old.1 _ _ hb).trans (hc i hi)⟩
theorem Rd.congr {w : World} {A : Option Addr} {n : Nat} {f g : Nat → Nat} (h : Rd w A n f) (e : ∀ i, i < n → f i = g i) : Rd w A n g := fun hn => by
  obtain ⟨b, o, rfl, hb, hc⟩ := h hn
  exact ⟨b, o, rfl, hb, fun i hi => by rw [hc i hi, e i hi]⟩
theorem Rd.le {w : World} {A : Option Addr} {n n' : Nat} {f : Nat → Nat} (h : Rd w A n f) (e : n' ≤ n) : Rd w A n' f := fun hn => by
  obtain ⟨b, o, rfl, hb, hc⟩ := h (by omega)
  exact ⟨b, o, rfl, hb, fun i hi => hc i (by omega)⟩
theorem Rd.at_ {w : World} {A : Option Addr} {n k : Nat} {f : Nat → Nat} (h : Rd w A n f) (hk : k < n) : ∃ b o, A = some ⟨b, o, none⟩ ∧ b < w.heap.size ∧ w.cell? ⟨b, o + k, none⟩ = some (U4 (f k)) := by
  obtain ⟨b, o, rfl, hb, hc⟩ := h (by omega)
  exact ⟨b, o, rfl, hb, hc k hk⟩

/-- The block g holds the words of f, and may be written. -/
def Own (w : World) (g n : Nat) (f : Nat → Nat) : Prop := g < w.heap.size ∧ ∀ i, i < n → w.cell? ⟨g, i, none⟩ = some (U4 (f i)) ∧ w.frozen? ⟨g, i, none⟩ = false
theorem Own.rd {w : World} {g n : Nat} {f : Nat → Nat} (h : Own w g n f) : Rd w (some ⟨g, 0, none⟩) n f := fun _ => ⟨g, 0, rfl, h.1, fun i hi => by rw [Nat.zero_add]; exact (h.2 i hi).1⟩
theorem Own.rd_from {w : World} {g n k m : Nat} {f : Nat → Nat} (h : Own w g n f) (hk : k + m ≤ n) : Rd w (some ⟨g, k, none⟩) m (fun i => f (k + i)) := fun _ => ⟨g, k, rfl, h.1, fun i hi => (h.2 (k + i) (by omega)).1⟩
theorem Own.ext {w w' : World} {g n : Nat} {f : Nat → Nat} (h : Own w g n f) (e : Ext w w') : Own w' g n f :=
  ⟨Nat.lt_of_lt_of_le h.1 e.size, fun i hi => ⟨(e.old.1 _ _ h.1).trans (h.2 i hi).1, (e.old.2 _ _ h.1).trans (h.2 i hi).2⟩⟩
theorem Own.congr {w : World} {g n : Nat} {f f' : Nat → Nat} (h : Own w g n f) (e : ∀ i, i < n → f i = f' i) : Own w g n f' :=
  ⟨h.1, fun i hi => by rw [← e i hi]; exact h.2 i hi⟩
theorem Own.le {w : World} {g n n' : Nat} {f : Nat → Nat} (h : Own w g n f) (e : n' ≤ n) : Own w g n' f := ⟨h.1, fun i hi => h.2 i (by omega)⟩
theorem Own.at_ {w : World} {g n k : Nat} {f : Nat → Nat} (h : Own w g n f) (hk : k < n) : w.cell? ⟨g, k, none⟩ = some (U4 (f k)) ∧ w.frozen? ⟨g, k, none⟩ = false := h.2 k hk
theorem size_setCell (w : World) (p : Addr) (v : Value) : (w.setCell p v).heap.size = w.heap.size := by simp
theorem Own.set {w : World} {g n k : Nat} {f : Nat → Nat} (h : Own w g n f) (hk : k < n) (v : Nat) : Own (w.setCell ⟨g, k, none⟩ (U4 v)) g n (upd f k v) := by
  refine ⟨by rw [size_setCell]; exact h.1, fun i hi => ?_⟩
  obtain ⟨h1, h2⟩ := h.2 i hi
  obtain ⟨h3, h4⟩ := h.2 k hk
  by_cases e : i = k
  · subst e
    rw [upd_same]
    exact ⟨World.cell?_setCell_same _ _ _ h1, by simp [h2]⟩
  · rw [upd_ne _ e]
    constructor
    · rw [World.cell?_setCell_other _ _ _ _ (by intro e2; injection e2; omega)]; exact h1
    · simp [h2]
end

/-! ### Bits -/
section
open Go.RowKit

/-- The highest bit of 32. -/
def hb (z : Int) : Bool := decide (2147483648 ≤ z % 4294967296)
theorem hb_of (z : Int) : (BitVec.ofInt 32 z).msb = hb z := by
  unfold hb
  rw [BitVec.msb_eq_decide, BitVec.toNat_ofInt]
  have : 0 ≤ z % 4294967296 := Int.emod_nonneg _ (by decide)
  simp
  omega
theorem w32 (v : BitVec 32) : IntKind.u32.wrap (v.toNat : Int) = (v.toNat : Int) := by
  have := v.isLt
  rw [show IntKind.u32.wrap (v.toNat : Int) = (v.toNat : Int) % 4294967296 from rfl]
  omega
theorem hb_toNat (v : BitVec 32) : hb (v.toNat : Int) = v.msb := by
  rw [BitVec.msb_eq_decide]; unfold hb
  have := v.isLt
  simp; omega
theorem bits_or32 (a b : Int) : bits .or .u32 a b = ((BitVec.ofInt 32 a ||| BitVec.ofInt 32 b).toNat : Int) := w32 _
theorem bits_and32 (a b : Int) : bits .and .u32 a b = ((BitVec.ofInt 32 a &&& BitVec.ofInt 32 b).toNat : Int) := w32 _
theorem bits_xor32 (a b : Int) : bits .xor .u32 a b = ((BitVec.ofInt 32 a ^^^ BitVec.ofInt 32 b).toNat : Int) := w32 _
theorem hb_or (a b : Int) : hb (bits .or .u32 a b) = (hb a || hb b) := by rw [bits_or32, hb_toNat, BitVec.msb_or, hb_of, hb_of]
theorem hb_and (a b : Int) : hb (bits .and .u32 a b) = (hb a && hb b) := by rw [bits_and32, hb_toNat, BitVec.msb_and, hb_of, hb_of]
theorem hb_xor (a b : Int) : hb (bits .xor .u32 a b) = (hb a ^^ hb b) := by rw [bits_xor32, hb_toNat, BitVec.msb_xor, hb_of, hb_of]
theorem hb_max : hb IntKind.u32.max = true := by decide
theorem or_top (a b : Int) : bits .or .u32 a b / 2147483648 = if (hb a || hb b) then 1 else 0 := by
  have h := hb_or a b
  rw [← h, bits_or32]
  have := (BitVec.ofInt 32 a ||| BitVec.ofInt 32 b).isLt
  generalize (BitVec.ofInt 32 a ||| BitVec.ofInt 32 b).toNat = n at *
  unfold hb
  by_cases e : 2147483648 ≤ (n : Int) % 4294967296 <;> simp [e] <;> omega

/-- The or of two words that are natural numbers. -/
theorem or_nat32 {a b : Nat} (ha : a < 4294967296) (hb : b < 4294967296) : bits .or .u32 (a : Int) (b : Int) = ((a ||| b : Nat) : Int) := by
  rw [bits_or32, BitVec.toNat_or]
  congr 1
  have e1 : (BitVec.ofInt 32 (a : Int)).toNat = a := by rw [BitVec.ofInt_natCast, BitVec.toNat_ofNat]; exact Nat.mod_eq_of_lt ha
  have e2 : (BitVec.ofInt 32 (b : Int)).toNat = b := by rw [BitVec.ofInt_natCast, BitVec.toNat_ofNat]; exact Nat.mod_eq_of_lt hb
  rw [e1, e2]
theorem w64 (v : BitVec 64) : IntKind.u64.wrap (v.toNat : Int) = (v.toNat : Int) := by
  have := v.isLt
  rw [show IntKind.u64.wrap (v.toNat : Int) = (v.toNat : Int) % 18446744073709551616 from rfl]
  omega
theorem or_nat64 {a b : Nat} (ha : a < 18446744073709551616) (hb : b < 18446744073709551616) : bits .or .u64 (a : Int) (b : Int) = ((a ||| b : Nat) : Int) := by
  rw [show bits .or .u64 (a : Int) (b : Int) = ((BitVec.ofInt 64 (a : Int) ||| BitVec.ofInt 64 (b : Int)).toNat : Int) from w64 _, BitVec.toNat_or]
  congr 1
  have e1 : (BitVec.ofInt 64 (a : Int)).toNat = a := by rw [BitVec.ofInt_natCast, BitVec.toNat_ofNat]; exact Nat.mod_eq_of_lt ha
  have e2 : (BitVec.ofInt 64 (b : Int)).toNat = b := by rw [BitVec.ofInt_natCast, BitVec.toNat_ofNat]; exact Nat.mod_eq_of_lt hb
  rw [e1, e2]
theorem and_one32 {a : Nat} (ha : a < 4294967296) : bits .and .u32 (a : Int) 1 = ((a % 2 : Nat) : Int) := by
  rw [bits_and32, BitVec.toNat_and]
  congr 1
  have e1 : (BitVec.ofInt 32 (a : Int)).toNat = a := by rw [BitVec.ofInt_natCast, BitVec.toNat_ofNat]; exact Nat.mod_eq_of_lt ha
  rw [e1, show (BitVec.ofInt 32 (1 : Int)).toNat = 1 by decide, Nat.and_one_is_mod]

def brw (x y c : Nat) : Nat := if x < y + c then 1 else 0
theorem brw_step {x y c : Nat} (hx : x < 4294967296) (hy : y < 4294967296) (hc : c ≤ 1) : (x + 4294967296 - y - c) % 4294967296 + y + c = x + brw x y c * 4294967296 ∧ brw x y c ≤ 1 := by
  unfold brw; split <;> omega
/-- The borrow of math/bits.Sub32. -/
theorem borrow32 {x y c : Nat} (hx : x < 4294967296) (hy : y < 4294967296) (hc : c ≤ 1) :
    bits BinOp.or IntKind.u32 (bits BinOp.and IntKind.u32 (bits BinOp.xor IntKind.u32 IntKind.u32.max ↑x) ↑y)
      (bits BinOp.and IntKind.u32 (bits BinOp.xor IntKind.u32 IntKind.u32.max (bits BinOp.xor IntKind.u32 ↑x ↑y)) (((x : Int) - y - c) % 4294967296)) / 2147483648 = (brw x y c : Int) := by
  unfold brw
  rw [or_top, hb_and, hb_and, hb_xor, hb_xor, hb_xor, hb_max]
  unfold hb
  by_cases h1 : 2147483648 ≤ (x : Int) % 4294967296 <;> by_cases h2 : 2147483648 ≤ (y : Int) % 4294967296 <;> by_cases h3 : 2147483648 ≤ ((x : Int) - y - c) % 4294967296 % 4294967296 <;> by_cases h4 : x < y + c <;> simp [h1, h2, h4] <;> omega
end

/-! ### Nat -/
section
open Go.RowKit

def slen : Value → Nat
  | .slice _ n _ => n
  | _ => 0

set_option maxHeartbeats 400000 in
theorem add32_any (x y c : Nat) (w : World) (hx : x < 4294967296) (hy : y < 4294967296) (hc : c ≤ 1) :
    Calls Tryz.prog 186 #[U4 x, U4 y, U4 c] w fun e w' => e = .returned (.tuple #[U4 ((x + y + c) % 4294967296), U4 ((x + y + c) / 4294967296)]) ∧ w = w' := by
  go_enter Tryz.func186, Tryz.ntmps186
  go_wp2
  go_ret2
  exact ⟨by simp, rfl⟩

set_option maxHeartbeats 400000 in
theorem sub32_any (x y c : Nat) (w : World) (hx : x < 4294967296) (hy : y < 4294967296) (hc : c ≤ 1) :
    Calls Tryz.prog 187 #[U4 x, U4 y, U4 c] w fun e w' => e = .returned (.tuple #[U4 ((x + 4294967296 - y - c) % 4294967296), U4 (brw x y c)]) ∧ w = w' := by
  have HB := Lib.hid (borrow32 hx hy hc)
  have HD : Hid (((x : Int) - y - c) % 4294967296 = ((x + 4294967296 - y - c) % 4294967296 : Nat)) := by
    show _ = _
    omega
  go_enter Tryz.func187, Tryz.ntmps187
  go_wp2
  rw [HB.out, HD.out]
  go_ret2
  exact ⟨by rfl, rfl⟩

theorem add32_at (x y c s c' : Nat) (w : World) (hx : x < 4294967296) (hy : y < 4294967296) (hc : c ≤ 1) (hs : (x + y + c) % 4294967296 = s) (hc' : (x + y + c) / 4294967296 = c') :
    Calls Tryz.prog 186 #[U4 x, U4 y, U4 c] w fun e w' => e = .returned (.tuple #[U4 s, U4 c']) ∧ w = w' := by subst hs; subst hc'; exact add32_any x y c w hx hy hc
theorem sub32_at (x y c s c' : Nat) (w : World) (hx : x < 4294967296) (hy : y < 4294967296) (hc : c ≤ 1) (hs : (x + 4294967296 - y - c) % 4294967296 = s) (hc' : brw x y c = c') :
    Calls Tryz.prog 187 #[U4 x, U4 y, U4 c] w fun e w' => e = .returned (.tuple #[U4 s, U4 c']) ∧ w = w' := by subst hs; subst hc'; exact sub32_any x y c w hx hy hc

set_option maxHeartbeats 400000 in
theorem trim_any (A : Option Addr) (n c : Nat) (f : Nat → Nat) (w : World) (hr : Rd w A n f) (hb : ∀ i, i < n → f i < 4294967296) (hc : n ≤ c) (hm : c ≤ maxLen) :
    Calls Tryz.prog 123 #[.slice A n c] w fun e w' => e = .returned (.slice A (len (valN f n)) c) ∧ w = w' := by
  unfold maxLen at hm
  have HB := Lib.hid hb; clear hb
  have HR := Lib.hid hr; clear hr
  go_enter Tryz.func123, Tryz.ntmps123
  go_wp2
  go_loop [0] (fun s => ∃ k : Nat, k ≤ n ∧ Hid (∀ i, k ≤ i → i < n → f i = 0) ∧ s = .slice A k c) (fun s => slen s)
  case atStart => exact ⟨n, Nat.le_refl _, (fun i h1 h2 => by omega), rfl⟩
  case round =>
    obtain ⟨k, hk, hz, rfl⟩ := hrel
    cases k with
    | zero =>
      have hl := Lib.hid (len_valN HB.out hk hz.out (.inl rfl))
      go_wp2
      go_ret
      exact ⟨by rw [hl.out]; rfl, rfl⟩
    | succ j =>
      obtain ⟨b, o, rfl, hbw, hcell⟩ := HR.out.at_ (k := j) (by omega)
      by_cases h0 : f j = 0
      · have hz' : Hid (∀ i, j ≤ i → i < n → f i = 0) := fun i h1 h2 => by
          by_cases e : i = j
          · subst e; exact h0
          · exact hz.out i (by omega) h2
        rw [h0] at hcell
        clear h0 hz
        go_wp2
        go_round
        case rel => exact ⟨j, by omega, hz', rfl⟩
        case measure => simp [slen]
      · have hl := Lib.hid (len_valN HB.out hk hz.out (.inr (by simpa using h0)))
        have h1 : ((f j : Int) == 0) = false := by simp; omega
        clear h0 hz
        go_wp2
        go_ret
        exact ⟨by rw [hl.out]; rfl, rfl⟩
end

/-! ### Natb -/
section
open Go.RowKit

theorem Calls.same_ext {P : Program} {f : FuncId} {args : Array Value} {w : World} {v : Value} (h : Calls P f args w fun e w' => e = .returned v ∧ w = w') : Calls P f args w fun e w' => e = .returned v ∧ Ext w w' :=
  h.mono fun _ _ ⟨he, hw⟩ => ⟨he, hw ▸ Ext.refl _⟩

def cmpI (x y : Int) : Int := if x < y then -1 else if y < x then 1 else 0
theorem cmpI_lt {x y : Int} (h : x < y) : cmpI x y = -1 := by unfold cmpI; rw [if_pos h]
theorem cmpI_gt {x y : Int} (h : y < x) : cmpI x y = 1 := by unfold cmpI; rw [if_neg (by omega), if_pos h]
theorem cmpI_eq {x y : Int} (h : x = y) : cmpI x y = 0 := by subst h; unfold cmpI; simp

set_option maxHeartbeats 400000 in
theorem cmpInt_any (x y : Int) (w : World) : Calls Tryz.prog 64 #[I x, I y] w fun e w' => e = .returned (I (cmpI x y)) ∧ w = w' := by
  rcases Int.lt_trichotomy x y with h | h | h
  · have HC := Lib.hid (cmpI_lt h)
    go_enter Tryz.func64, Tryz.ntmps64
    go_wp2
    go_ret
    exact ⟨by rw [HC.out]; rfl, rfl⟩
  · have HC := Lib.hid (cmpI_eq h)
    have h1 : ¬ x < y := by omega
    have h2 : ¬ y < x := by omega
    clear h
    go_enter Tryz.func64, Tryz.ntmps64
    go_wp2
    go_ret
    exact ⟨by rw [HC.out]; rfl, rfl⟩
  · have HC := Lib.hid (cmpI_gt h)
    have h1 : ¬ x < y := by omega
    go_enter Tryz.func64, Tryz.ntmps64
    go_wp2
    go_ret
    exact ⟨by rw [HC.out]; rfl, rfl⟩

set_option maxHeartbeats 400000 in
theorem cmpU_lt (x y : Nat) (w : World) (h : x < y) : Calls Tryz.prog 120 #[U4 x, U4 y] w fun e w' => e = .returned (I (-1)) ∧ w = w' := by
  have h1 : (x : Int) < y := by omega
  go_enter Tryz.func120, Tryz.ntmps120
  go_wp2
  go_ret
  exact ⟨rfl, rfl⟩
set_option maxHeartbeats 400000 in
theorem cmpU_gt (x y : Nat) (w : World) (h : y < x) : Calls Tryz.prog 120 #[U4 x, U4 y] w fun e w' => e = .returned (I 1) ∧ w = w' := by
  have h1 : (y : Int) < x := by omega
  have h2 : ¬ (x : Int) < y := by omega
  go_enter Tryz.func120, Tryz.ntmps120
  go_wp2
  go_ret
  exact ⟨rfl, rfl⟩

set_option maxHeartbeats 400000 in
theorem compare_any (A B : Option Addr) (m n ca cb : Nat) (w : World) (ha : Rd w A (len m) (dg m)) (hb' : Rd w B (len n) (dg n)) (ha1 : len m ≤ 1073741824) :
    Calls Tryz.prog 66 #[.slice A (len m) ca, .slice B (len n) cb] w fun e w' => e = .returned (I (cmpF m n)) ∧ Ext w w' := by
  have HA := Lib.hid ha; clear ha
  have HB := Lib.hid hb'; clear hb'
  by_cases hl : len m = len n
  · have h0 := Lib.hid (cmp_start hl)
    obtain ⟨L, hL⟩ : ∃ L, len m = L := ⟨_, rfl⟩
    rw [hL] at hl ha1 h0
    rw [hL, ← hl]
    rw [hL] at HA
    rw [← hl] at HB
    clear hL hl
    have H0 : Hid (m / pB L = n / pB L) := h0
    clear h0
    go_enter Tryz.func66, Tryz.ntmps66
    go_wp2
    go_loopw [5] (fun s wr => Ext w wr ∧ (s = I (-1) ∧ Hid (m / pB 0 = n / pB 0) ∨ ∃ j : Nat, j < L ∧ s = I j ∧ Hid (m / pB (j + 1) = n / pB (j + 1)))) (fun s _ => (intOf s + 1).toNat)
    case atStart =>
      refine ⟨Ext.refl _, ?_⟩
      cases L with
      | zero => exact .inl ⟨rfl, H0⟩
      | succ l => exact .inr ⟨l, by omega, by go_num, H0⟩
    case round =>
      clear H0
      obtain ⟨hb, ⟨rfl, hz⟩ | ⟨j, hj, rfl, hz⟩⟩ := hrel
      · have HC := Lib.hid (cmp_eq (cmp_end hz.out))
        go_wp2
        go_ret
        exact ⟨by rw [HC.out]; rfl, hb⟩
      · obtain ⟨b1, o1, rfl, hb1, c1⟩ := HA.out.at_ hj
        obtain ⟨b2, o2, rfl, hb2, c2⟩ := HB.out.at_ hj
        obtain ⟨hc, hf⟩ := hb.old
        have hi1 : (0 : Int) ≤ (j : Int) := by omega
        have hi2 : (j : Int) < (L : Int) := by omega
        by_cases e : dg m j = dg n j
        · have hz' := Lib.hid (cmp_step hz.out e)
          rw [e] at c1
          clear e hz
          go_wp2
          go_quiet (fail)
          go_wp2
          go_roundw
          case rel =>
            refine ⟨hb.trans (Ext.drewN _ _), ?_⟩
            cases j with
            | zero => exact .inl ⟨rfl, hz'⟩
            | succ l => exact .inr ⟨l, by omega, by go_num, hz'⟩
          case measure => simp [intOf]
        · have e1 : ((dg m j : Int) != (dg n j : Int)) = true := by simp; omega
          rcases Nat.lt_or_gt_of_ne e with e2 | e2
          · have HC := Lib.hid (cmp_lt (cmp_dg hz.out e2))
            clear e hz
            go_wp2
            go_quiet (fail)
            go_wp2
            replace hb := hb.trans (Ext.drewN _ nq); clear hc hf
            have hL := fun (x : Later _) => (Ext.trans hb x.ext).old.1
            refine wp_region_later (by kernel_rfl) (by kernel_rfl) ?_
            repeat (go_big_quiet_step (((go_at_call 120; exact Calls.later (Calls.same_ext (cmpU_lt _ _ _ e2))))))
            refine wpQuiet_nil ?_
            intro w2 hw2
            replace hb := Ext.trans hb (Later.of hw2)
            clear hw2 hL
            obtain ⟨hc, hf⟩ := hb.old
            go_wp2
            go_ret
            exact ⟨by rw [HC.out]; rfl, hb⟩
          · have HC := Lib.hid (cmp_gt (cmp_dg hz.out.symm e2))
            clear e hz
            go_wp2
            go_quiet (fail)
            go_wp2
            replace hb := hb.trans (Ext.drewN _ nq); clear hc hf
            have hL := fun (x : Later _) => (Ext.trans hb x.ext).old.1
            refine wp_region_later (by kernel_rfl) (by kernel_rfl) ?_
            repeat (go_big_quiet_step (((go_at_call 120; exact Calls.later (Calls.same_ext (cmpU_gt _ _ _ e2))))))
            refine wpQuiet_nil ?_
            intro w2 hw2
            replace hb := Ext.trans hb (Later.of hw2)
            clear hw2 hL
            obtain ⟨hc, hf⟩ := hb.old
            go_wp2
            go_ret
            exact ⟨by rw [HC.out]; rfl, hb⟩
  · have h1 : ((len m : Int) != (len n : Int)) = true := by simp; omega
    have HC : Hid (cmpI (len m) (len n) = cmpF m n) := by
      rcases Nat.lt_or_gt_of_ne hl with h | h
      · show cmpI _ _ = _; rw [cmp_lt (cmp_len h), cmpI_lt (by omega)]
      · show cmpI _ _ = _; rw [cmp_gt (cmp_len h), cmpI_gt (by omega)]
    clear hl
    go_enter Tryz.func66, Tryz.ntmps66
    go_wp2_with (go_at_call 64; refine (cmpInt_any _ _ _).mono ?_; rintro e w' ⟨rfl, rfl⟩)
    go_ret
    exact ⟨by rw [← HC.out]; rfl, Ext.refl _⟩
end

/-! ### Row -/
section
open Go.RowKit

def wl (f : Nat → Nat) (n : Nat) : List Value := (List.range n).map fun i => U4 (f i)
theorem wl_len (f : Nat → Nat) (n : Nat) : (wl f n).length = n := by unfold wl; simp
theorem wl_get (f : Nat → Nat) {n i : Nat} (h : i < n) : (wl f n)[i]? = some (U4 (f i)) := by unfold wl; simp [h]
theorem wl_snoc (f : Nat → Nat) (n x : Nat) : wl f n ++ [U4 x] = wl (upd f n x) (n + 1) := by
  unfold wl
  rw [List.range_succ, List.map_append]
  congr 1
  · apply List.map_congr_left
    intro i hi
    have : i < n := by simpa using hi
    rw [upd_ne f (by omega)]
  · simp [upd_same]
theorem wl_set (f : Nat → Nat) {n k : Nat} (x : Nat) : (wl f n).set k (U4 x) = wl (upd f k x) n := by
  apply List.ext_getElem?
  intro i
  rw [List.getElem?_set]
  by_cases hi : i < n
  · rw [wl_get f hi, wl_get (upd f k x) hi]
    by_cases e : k = i
    · subst e; rw [if_pos rfl, if_pos (by rw [wl_len]; exact hi), upd_same]
    · rw [if_neg e, upd_ne f (by omega)]
  · rw [List.getElem?_eq_none (l := wl (upd f k x) n) (by rw [wl_len]; omega)]
    split
    · simp [wl_len]; omega
    · exact List.getElem?_eq_none (by rw [wl_len]; omega)
theorem wl_congr {f g : Nat → Nat} {n : Nat} (h : ∀ i, i < n → f i = g i) : wl f n = wl g n := by
  unfold wl; apply List.map_congr_left; intro i hi; rw [h i (by simpa using hi)]

def Row (w : World) (base g n c : Nat) (f : Nat → Nat) : Prop := w.ownsRow base 154 1 (.slice (some ⟨g, 0, none⟩) n c) n (wl f n)
section
variable {w w' : World} {base g n c k : Nat} {f : Nat → Nat}
theorem Row.lt (h : Row w base g n c f) : base ≤ g ∧ g < w.heap.size := World.ownsRow.lt h g rfl
theorem Row.cap (h : Row w base g n c f) : n ≤ c ∧ c ≤ maxLen := by
  obtain ⟨_, ⟨h', _⟩ | ⟨g', cap', cur, h', _, _, a, b, _⟩⟩ := h
  · simp at h'
  · simp only [Value.slice.injEq, Option.some.injEq, Addr.mk.injEq, and_true, true_and] at h'
    obtain ⟨rfl, rfl⟩ := h'
    exact ⟨a, b⟩
theorem Row.cell (h : Row w base g n c f) (hk : k < n) : w.cell? ⟨g, k, none⟩ = some (U4 (f k)) := by
  have := World.ownsRow.cellAt h k (by omega)
  rw [this, wl_get _ hk]
theorem Row.frozen (h : Row w base g n c f) (k : Nat) : w.frozen? ⟨g, k, none⟩ = false := World.ownsRow.frozenAt h k
theorem Row.rd (h : Row w base g n c f) : Rd w (some ⟨g, 0, none⟩) n f := fun _ => ⟨g, 0, rfl, h.lt.2, fun i hi => by rw [Nat.zero_add]; exact h.cell hi⟩
theorem Row.rd_from {j m : Nat} (h : Row w base g n c f) (hk : j + m ≤ n) : Rd w (some ⟨g, j, none⟩) m (fun i => f (j + i)) := fun _ => ⟨g, j, rfl, h.lt.2, fun i hi => h.cell (by omega)⟩
theorem Row.set (h : Row w base g n c f) (k x : Nat) : Row (w.setCell ⟨g, k, none⟩ (U4 x)) base g n c (upd f k x) := by
  have := (World.ownsRow.stored h k (U4 x)).1
  rw [wl_set] at this
  exact this
theorem Row.set_fr (h : Row w base g n c f) (k x : Nat) : w.grownBy (w.setCell ⟨g, k, none⟩ (U4 x)) (some g) := (World.ownsRow.stored h k (U4 x)).2
theorem Row.grown {row : Option Nat} (h : Row w base g n c f) (hg : w.grownBy w' row) (hne : some g ≠ row) : Row w' base g n c f := World.ownsRow.kept h hg (.inr hne)
theorem Row.congr {f' : Nat → Nat} (h : Row w base g n c f) (e : ∀ i, i < n → f i = f' i) : Row w base g n c f' := by
  unfold Row at *; rw [← wl_congr e]; exact h
theorem Row.drew (h : Row w base g n c f) : Row w.drew base g n c f := h
theorem Row.drewN (h : Row w base g n c f) (m : Nat) : Row (w.drewN m) base g n c f := h
theorem fr_of_ext (h : Ext w w') : w.grownBy w' none := ⟨h.os, h.tape, h.output, h.size, fun k hk _ => h.block k hk⟩
theorem Row.ext (h : Row w base g n c f) (e : Ext w w') : Row w' base g n c f := h.grown (fr_of_ext e) (by simp)
end
theorem fr_refl (w : World) (r : Option Nat) : w.grownBy w r := ⟨rfl, rfl, rfl, Nat.le_refl _, fun _ _ _ => rfl⟩
theorem fr_trans {a b c : World} {r : Option Nat} (h : a.grownBy b r) (k : b.grownBy c r) : a.grownBy c r :=
  ⟨k.os.trans h.os, k.tape.trans h.tape, k.output.trans h.output, Nat.le_trans h.size k.size, fun i hi hr => (k.block i (Nat.lt_of_lt_of_le hi h.size) hr).trans (h.block i hi hr)⟩
theorem fr_ext {a b : World} (r : Option Nat) (h : Ext a b) : a.grownBy b r := ⟨h.os, h.tape, h.output, h.size, fun k hk _ => h.block k hk⟩
/-- What only a block of one's own is written to. -/
theorem ext_fr {a b c : World} {g : Nat} (h : Ext a b) (k : b.grownBy c (some g)) (hg : a.heap.size ≤ g) : Ext a c :=
  Below.grown h k h.size (fun j hj => by injection hj with hj; omega)
theorem ext_fr_none {a b c : World} (h : Ext a b) (k : b.grownBy c none) : Ext a c := Below.grown h k h.size (fun j hj => by cases hj)
theorem Rd.fr {w w' : World} {A : Option Addr} {n g : Nat} {f : Nat → Nat} (h : Rd w A n f) (e : w.grownBy w' (some g)) (hne : ∀ a, A = some a → a.block ≠ g) : Rd w' A n f := fun hn => by
  obtain ⟨b, o, rfl, hb, hc⟩ := h hn
  have := hne _ rfl
  exact ⟨b, o, rfl, Nat.lt_of_lt_of_le hb e.size, fun i hi => e.cell (hc i hi) (by simpa using this)⟩
theorem Rd.block_ne {w : World} {A : Option Addr} {n g : Nat} {f : Nat → Nat} (h : Rd w A n f) (hn : 0 < n) (hg : w.heap.size ≤ g) : ∀ a, A = some a → a.block ≠ g := by
  rintro a rfl
  obtain ⟨b, o, e, hb, _⟩ := h hn
  injection e with e; subst e; simp; omega

theorem infoU : (Tryz.prog.info? 154).map (fun i => (i.zero, i.size, i.bytes)) = some (some (.int .u32 0), 1, 4) := by kernel_rfl
/-- A new row of zeros. -/
theorem run_make_row (w : World) (n : Nat) (hn : n ≤ 1099511627776) : ∃ w', (Instr.makeSlice 64 (.int .i64 (n : Int)) (.int .i64 (n : Int))).run Tryz.prog w = .ok (.slice (some ⟨w.heap.size, 0, none⟩) n n) w' ∧
    Row w' w.heap.size w.heap.size n n (fun _ => 0) ∧ Ext w w' := by
  obtain ⟨i, hi, hz, h1, hb⟩ := info_parts infoU
  obtain ⟨w', hr, ho, hg⟩ := run_make_full (P := Tryz.prog) w w.heap.size 64 154 i (.int .u32 0) 1 Tryz.underlying64 hi hz h1 .i64 .i64 n (by rw [hb]; omega) (by unfold maxLen; omega) (Nat.le_refl _)
  refine ⟨w', hr, ?_, ext_fr_none (Ext.refl w) hg⟩
  unfold Row
  have e : (madeCells (Value.int IntKind.u32 0).cells (n * 1)).toList = wl (fun _ => 0) n := by
    rw [show (Value.int IntKind.u32 0).cells = #[.int .u32 0] from rfl, toList_madeCells_one, Nat.mul_one]
    apply List.ext_getElem?
    intro j
    by_cases hj : j < n
    · rw [wl_get _ hj]; simp [hj]
    · rw [List.getElem?_eq_none (l := wl _ n) (by rw [wl_len]; omega)]; simp; omega
  rw [e] at ho
  exact ho
end

/-! ### Natc -/
section
open Go.RowKit

def AddPost (w : World) (base g N C o n : Nat) (F f : Nat → Nat) (e : Ending) (w' : World) : Prop :=
  ∃ (F' : Nat → Nat) (cy : Nat), e = .returned (U4 cy) ∧ Row w' base g N C F' ∧ w.grownBy w' (some g) ∧ (∀ i, i < N → F' i < 4294967296) ∧ (∀ i, i < o ∨ o + n ≤ i → F' i = F i) ∧ cy ≤ 1 ∧
    valN (fun i => F' (o + i)) n + cy * pB n = valN (fun i => F (o + i)) n + valN f n

set_option maxRecDepth 100000 in
set_option maxHeartbeats 1000000 in
theorem addTo_any (base g N C o n c cb : Nat) (F f : Nat → Nat) (B : Option Addr) (w : World) (hrow : Row w base g N C F) (ho : o + n ≤ N) (hN : N ≤ 1099511627776) (hB : Rd w B n f) (hne : 0 < n → ∀ a, B = some a → a.block ≠ g)
    (hF : ∀ i, i < N → F i < 4294967296) (hf : ∀ i, i < n → f i < 4294967296) :
    Calls Tryz.prog 185 #[.slice (some ⟨g, o, none⟩) n c, .slice B n cb] w (AddPost w base g N C o n F f) := by
  have HB := Lib.hid hB; clear hB
  have HN := Lib.hid hne; clear hne
  have HF := Lib.hid hF; clear hF
  have Hf := Lib.hid hf; clear hf
  go_enter Tryz.func185, Tryz.ntmps185
  go_wp2
  go_loopw [5, 9] (fun sc si wr => ∃ (k cy : Nat) (F' : Nat → Nat), k ≤ n ∧ si = I k ∧ sc = U4 cy ∧ cy ≤ 1 ∧ Hid (Row wr base g N C F') ∧ w.grownBy wr (some g) ∧ Hid (∀ i, i < N → F' i < 4294967296) ∧ Hid (∀ i, i < o ∨ o + k ≤ i → F' i = F i) ∧
      Hid (valN (fun i => F' (o + i)) k + cy * pB k = valN (fun i => F (o + i)) k + valN f k)) (fun _ si _ => n - (intOf si).toNat)
  case atStart => exact ⟨0, 0, F, Nat.zero_le _, rfl, rfl, by omega, hrow, fr_refl _ _, HF.out, (fun _ _ => rfl), by show _ = _; simp [valN]⟩
  case round =>
    obtain ⟨k, cy, F', hk, rfl, rfl, hcy, hrw, hfr, hFb, hFo, hv⟩ := hrel
    by_cases hlt : k < n
    · obtain ⟨b2, o2, rfl, hb2, c2⟩ := (HB.out.fr hfr (HN.out (by omega))).at_ hlt
      have hbg : b2 ≠ g := HN.out (by omega) _ rfl
      have c1 := hrw.out.cell (k := o + k) (by omega)
      have f1 := hrw.out.frozen (o + k)
      have hx := hFb.out (o + k) (by omega)
      have hy := Hf.out k hlt
      have hFk : Hid (F' (o + k) = F (o + k)) := hFo.out (o + k) (by omega)
      obtain ⟨x, hxe⟩ : ∃ x, F' (o + k) = x := ⟨_, rfl⟩
      obtain ⟨y, hye⟩ : ∃ y, f k = y := ⟨_, rfl⟩
      rw [hxe] at c1 hx
      rw [hye] at c2 hy
      have HX := Lib.hid hxe; clear hxe
      have HY := Lib.hid hye; clear hye
      obtain ⟨r, hr⟩ : ∃ r, (x + y + cy) % 4294967296 = r := ⟨_, rfl⟩
      obtain ⟨d, hd⟩ : ∃ d, (x + y + cy) / 4294967296 = d := ⟨_, rfl⟩
      have hd1 : d ≤ 1 := by omega
      have hr1 : r < 4294967296 := by omega
      have hs := Lib.hid (add_step (s := r) (x := x) (y := y) (c := cy) (c' := d) hv.out (by omega))
      have R := Lib.hid hr; clear hr
      have D := Lib.hid hd; clear hd
      go_wp2_with fail
      go_region_with ((go_at_call 186; refine (add32_at x y cy r d _ hx hy hcy R.out D.out).mono ?_; rintro e w2 ⟨rfl, rfl⟩))
      all_goals
        go_wp2_with fail
        go_roundw
        case rel =>
          refine ⟨k + 1, d, upd F' (o + k) r, by omega, by go_num, rfl, hd1, Row.set hrw.out.drew _ _, fr_trans hfr (fr_trans (Row.set_fr hrw.out (o + k) r) (fr_ext _ (Ext.drew _))), upd_lt hFb.out hr1, ?_, ?_⟩
          · exact fun i hi => by rw [upd_ne _ (by omega)]; exact hFo.out i (by omega)
          · show _ = _
            rw [pB_succ]
            have e1 : valN (fun i => upd F' (o + k) r (o + i)) (k + 1) = valN (fun i => F' (o + i)) k + r * pB k := by
              rw [valN, upd_same]; congr 1; exact valN_congr fun i hi => upd_ne _ (by omega)
            rw [e1, valN, valN, ← hFk.out, HX.out, HY.out]
            exact hs.out
        case measure => simp [intOf]; omega
    · obtain rfl : k = n := by omega
      go_wp2
      go_ret
      exact ⟨F', cy, rfl, hrw.out, hfr, hFb.out, hFo.out, hcy, hv.out⟩
end

/-! ### Own -/
section
open Go.RowKit

def SlOk (A : Option Addr) (n c : Nat) : Prop := n ≤ c ∧ c ≤ maxLen ∧ (A = none → n = 0 ∧ c = 0)
def On (w : World) (base : Nat) (A : Option Addr) (n c : Nat) (f : Nat → Nat) : Prop := w.ownsRow base 154 1 (.slice A n c) n (wl f n)
section
variable {w w' : World} {base n c : Nat} {A : Option Addr} {f : Nat → Nat}
theorem On.cases (h : On w base A n c f) : (A = none ∧ n = 0 ∧ c = 0) ∨ ∃ g, A = some ⟨g, 0, none⟩ ∧ Row w base g n c f := by
  have h' := h
  obtain ⟨_, ⟨e, hn⟩ | ⟨g, cap, cur, e, _⟩⟩ := h
  · injection e with e1 e2 e3; exact .inl ⟨e1, hn, e3⟩
  · injection e with e1 e2 e3; subst e1; exact .inr ⟨g, rfl, h'⟩
theorem On.ok (h : On w base A n c f) : SlOk A n c := by
  rcases h.cases with ⟨rfl, rfl, rfl⟩ | ⟨g, rfl, hr⟩
  · exact ⟨Nat.le_refl _, Nat.zero_le _, fun _ => ⟨rfl, rfl⟩⟩
  · exact ⟨hr.cap.1, hr.cap.2, fun e => by cases e⟩
theorem On.rd (h : On w base A n c f) : Rd w A n f := by
  rcases h.cases with ⟨rfl, rfl, rfl⟩ | ⟨g, rfl, hr⟩
  · exact Rd.none_
  · exact hr.rd
theorem On.ext (h : On w base A n c f) (e : Ext w w') : On w' base A n c f :=
  World.ownsRow.kept h (fr_of_ext e) (by cases (Value.slice A n c).ownBlock <;> simp)
theorem On.congr {f' : Nat → Nat} (h : On w base A n c f) (e : ∀ i, i < n → f i = f' i) : On w base A n c f' := by
  unfold On at *; rw [← wl_congr e]; exact h
theorem On.mono {base' : Nat} (h : On w base A n c f) (hb : base' ≤ base) : On w base' A n c f := by
  obtain ⟨hl, h⟩ := h
  refine ⟨hl, ?_⟩
  rcases h with h | ⟨g, cap, cur, h1, h2, h3⟩
  · exact .inl h
  · exact .inr ⟨g, cap, cur, h1, by omega, h3⟩
theorem On.nil (w : World) (base : Nat) (f : Nat → Nat) : On w base none 0 0 f := World.ownsRow_nil _ _ _ _
end
theorem Row.on {w : World} {base g n c : Nat} {f : Nat → Nat} (h : Row w base g n c f) : On w base (some ⟨g, 0, none⟩) n c f := h
theorem Row.le {w : World} {base g n n' c : Nat} {f : Nat → Nat} (h : Row w base g n c f) (hn : n' ≤ n) : Row w base g n' c f := by
  obtain ⟨hl, ⟨h', _⟩ | ⟨g', cap', cur, h', a, b, c1, d, e, ht⟩⟩ := h
  · simp at h'
  · refine ⟨by rw [wl_len]; simp, .inr ⟨g', cap', cur, ?_, a, b, by omega, d, e, ?_⟩⟩
    · injection h' with h1 h2 h3; rw [h1, h3]
    · have : cur.toList.take (n' * 1) = (cur.toList.take (n * 1)).take (n' * 1) := by rw [List.take_take]; congr 1; omega
      rw [this, ht]
      apply List.ext_getElem?
      intro i
      rw [List.getElem?_take]
      by_cases hi : i < n'
      · rw [if_pos (by omega), wl_get _ (by omega), wl_get _ hi]
      · rw [if_neg (by omega), List.getElem?_eq_none (by rw [wl_len]; omega)]

/-- What a function on natural numbers returns: new memory that reads as x. -/
def NatRes (x : Nat) (w : World) (e : Ending) (w' : World) : Prop := ∃ A c, e = .returned (.slice A (len x) c) ∧ On w' w.heap.size A (len x) c (dg x) ∧ Ext w w'
/-- Of a row that has been cut to its length. -/
theorem natRes_of {w w' : World} {x g n c : Nat} {f : Nat → Nat} {e : Ending} (hr : Row w' w.heap.size g n c f) (hb : ∀ i, i < n → f i < 4294967296) (hv : valN f n = x) (he : e = .returned (.slice (some ⟨g, 0, none⟩) (len (valN f n)) c)) (hx : Ext w w') : NatRes x w e w' := by
  subst hv
  refine ⟨_, c, he, ((hr.le ?_).congr fun i hi => (dg_valN hb ?_).symm).on, hx⟩
  · exact len_le (valN_lt hb)
  · have := len_le (valN_lt (f := f) hb); omega

theorem news1 {w : World} {ad : Addr} {v : Value} (h : w.cell? ad = some v) : ∀ j u, [v][j]? = some u → w.cell? (ad.add j) = some u := by
  intro j u hj
  cases j with
  | zero => simp at hj; subst hj; exact h
  | succ j => simp at hj
section
variable {ops : Array Oper} {rest : List Oper} {o : Oper} {a : Act} {w : World}
theorem app1 {Q : Exit → Act → World → Prop} (hgd : o.guard = none) (s x : Operand) (ho : o.op = .call { callee := .builtin .append, args := #[s, x], argTypes := #[64, 64] })
    (base : Nat) (A : Option Addr) (n c : Nat) (f : Nat → Nat) (hs : a.eval s = .slice A n c) (hown : On w base A n c f) (ad : Addr) (cx v : Nat) (hx : a.eval x = .slice (some ad) 1 cx) (hv : w.cell? ad = some (U4 v))
    (hn : n ≤ 1099511627776) (hbase : base ≤ w.heap.size)
    (h : ∀ g cap w', Row w' base g (n + 1) cap (upd f n v) → w.grownBy w' (Value.slice A n c).ownBlock → ((Value.slice A n c).ownBlock = some g ∨ g = w.heap.size) → g < w'.heap.size →
      wpList Tryz.prog ops Q rest (a.put o.dst (.slice (some ⟨g, 0, none⟩) (n + 1) cap)) w') : wpList Tryz.prog ops Q (o :: rest) a w := by
  obtain ⟨i, hi, hz, h1, hb⟩ := info_parts infoU
  refine wpList_append_lies w hgd s x _ ho base 154 i _ 1 4 Tryz.underlying64 hi hz h1 hb rfl (by omega) _ n _ hs hown ad 1 cx [U4 v] hx rfl (news1 hv) (by simp [Value.oneCell']) (by omega) (by unfold maxLen; omega) (by omega) hbase w.heap.size rfl ?_
  intro g cap w' h1 h2 h3 h4
  refine h g cap w' ?_ h2 h3 h4
  rw [wl_snoc] at h1; exact h1
theorem app1_step {K : Act → World → Prop} {Q : Exit → Act → World → Prop} {E : Prop} (hgd : o.guard = none) (s x : Operand) (ho : o.op = .call { callee := .builtin .append, args := #[s, x], argTypes := #[64, 64] })
    (base : Nat) (A : Option Addr) (n c : Nat) (f : Nat → Nat) (hs : a.eval s = .slice A n c) (hown : On w base A n c f) (ad : Addr) (cx v : Nat) (hx : a.eval x = .slice (some ad) 1 cx) (hv : w.cell? ad = some (U4 v))
    (hn : n ≤ 1099511627776) (hbase : base ≤ w.heap.size)
    (h : ∀ g cap w', Row w' base g (n + 1) cap (upd f n v) → w.grownBy w' (Value.slice A n c).ownBlock → ((Value.slice A n c).ownBlock = some g ∨ g = w.heap.size) → g < w'.heap.size →
      K (a.put o.dst (.slice (some ⟨g, 0, none⟩) (n + 1) cap)) w') : if Region.wanted o (yielded ops a.tmps) = true then Oper.wp Tryz.prog o a w K Q else E := by
  obtain ⟨i, hi, hz, h1, hb⟩ := info_parts infoU
  refine step_append_lies w hgd s x _ ho base 154 i _ 1 4 Tryz.underlying64 hi hz h1 hb rfl (by omega) _ n _ hs hown ad 1 cx [U4 v] hx rfl (news1 hv) (by simp [Value.oneCell']) (by omega) (by unfold maxLen; omega) (by omega) hbase w.heap.size rfl ?_
  intro g cap w' h1 h2 h3 h4
  refine h g cap w' ?_ h2 h3 h4
  rw [wl_snoc] at h1; exact h1
end
/-- Behind an append to a row of one's own. -/
theorem ext_app {w0 w w' : World} {A : Option Addr} {n c : Nat} {f : Nat → Nat} (h : Ext w0 w) (hown : On w w0.heap.size A n c f) (hg : w.grownBy w' (Value.slice A n c).ownBlock) : Ext w0 w' :=
  Below.grown h hg h.size (fun k hk => (World.ownsRow.lt hown k hk).1)
end

end Go.Proofs.YtkocmdpfknoiaaaGreatDoor
