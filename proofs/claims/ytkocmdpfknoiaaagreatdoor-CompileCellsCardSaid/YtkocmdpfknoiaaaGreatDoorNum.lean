/- Plain lemmas for the walks: worlds that only grew, integers, powers of two, bits. -/
import Derived.WalkKit
import Derived.BigQuiet
import Derived.Deep.QuietTactic
import Derived.Lib.Hide
namespace Go.Proofs.YtkocmdpfknoiaaaGreatDoor
open Go.RowKit

abbrev I (n : Int) : Value := .int .i64 n

/-- All memory that was there is as it was. -/
def Ext (w w' : World) : Prop := Below w.heap.size w w'
theorem Ext.refl (w : World) : Ext w w := Below.refl _ w
theorem Ext.trans {a b c : World} (h : Ext a b) (k : Ext b c) : Ext a c := Below.trans h (Below.mono k (Below.size h))
theorem Ext.alloc (w : World) (o : Obj) : Ext w (w.alloc o) := (Below.refl _ _).alloc (Nat.le_refl _) o
theorem Ext.drewN (w : World) (n : Nat) : Ext w (w.drewN n) := ⟨rfl, rfl, rfl, Nat.le_refl _, fun _ _ => rfl⟩
theorem Ext.drew (w : World) : Ext w w.drew := (Below.refl _ _).drew
theorem Ext.old {w w' : World} (h : Ext w w') : (∀ b o, b < w.heap.size → w'.cell? ⟨b, o, none⟩ = w.cell? ⟨b, o, none⟩) ∧ (∀ b o, b < w.heap.size → w'.frozen? ⟨b, o, none⟩ = w.frozen? ⟨b, o, none⟩) :=
  ⟨fun b o hb => Below.cell h (p := ⟨b, o, none⟩) hb, fun b o hb => Below.frozen h (p := ⟨b, o, none⟩) hb⟩
theorem Ext.set {w w' : World} (h : Ext w w') {p : Addr} (hp : w.heap.size ≤ p.block) (u : Value) : Ext w (w'.setCell p u) := Below.setCell h hp u
theorem Ext.size {w w' : World} (h : Ext w w') : w.heap.size ≤ w'.heap.size := Below.size h

/-- A world in which all that was there is as it was. -/
structure Later (w : World) where
  to : World
  ext : Ext w to
instance (w : World) : Nonempty (Later w) := ⟨⟨w, Ext.refl w⟩⟩
theorem Later.cell {w : World} (x : Later w) (b o : Nat) (h : b < w.heap.size) : x.to.cell? ⟨b, o, none⟩ = w.cell? ⟨b, o, none⟩ := x.ext.old.1 b o h
theorem Later.frozen {w : World} (x : Later w) (b o : Nat) (h : b < w.heap.size) : x.to.frozen? ⟨b, o, none⟩ = w.frozen? ⟨b, o, none⟩ := x.ext.old.2 b o h
/-- A region that draws its order, whose operations read, compute, or call what leaves the old memory alone: one walk in the order of the text. -/
theorem wp_region_later {P : Program} {id : Nat} {Q : Exit → Act → World → Prop} {a : Act} {w : World} {l : List Oper} (hm : P.follows .mixedOrders = true) (hB : Region.lexB .any l.toArray = true)
    (h : wpQuiet P l.toArray (fun w' => ∃ x : Later w, w' = x.to) (fun a' => ∀ w', (∃ x : Later w, w' = x.to) → Q .normal a' w') l a) : (Code.region id l.toArray true).wp P Q a w :=
  wp_region_quiet (C := fun w' => ∃ x : Later w, w' = x.to) hm hB ⟨⟨_, Ext.drew w⟩, rfl⟩ (by simpa using h)
theorem Later.of {w w' : World} (h : ∃ x : Later w, w' = x.to) : Ext w w' := by obtain ⟨x, rfl⟩ := h; exact x.ext
theorem Calls.later {P : Program} {f : FuncId} {args : Array Value} {w : World} {x : Later w} {v : Value}
    (h : Calls P f args x.to fun e w' => e = .returned v ∧ Ext x.to w') : Calls P f args x.to fun e w'' => e = .returned v ∧ ∃ y : Later w, w'' = y.to :=
  h.mono fun _ w' ⟨he, hw⟩ => ⟨he, ⟨w', x.ext.trans hw⟩, rfl⟩

theorem ret_int {a b : Int} (h : a = b) : Ending.returned (I a) = .returned (I b) := by rw [h]

theorem wrap_id {n : Int} (h1 : -9223372036854775808 ≤ n) (h2 : n ≤ 9223372036854775807) : wrap64 n = n := IntWalk.wrap64_in n ⟨h1, h2⟩

theorem pow_pos (k : Nat) : (1 : Int) ≤ 2 ^ k := by
  have := Int.pow_pos (n := 2) (m := k) (by decide); omega
theorem pow_le {j k : Nat} (h : j ≤ k) : (2 : Int) ^ j ≤ 2 ^ k := by
  have := Nat.pow_le_pow_right (n := 2) (by decide) h; exact_mod_cast this
theorem pow62 {k : Nat} (h : k ≤ 62) : (2 : Int) ^ k ≤ 4611686018427387904 := by
  have := pow_le h; simpa using this
theorem wrap_pow {k : Nat} (h : k ≤ 62) : wrap64 (2 ^ k) = 2 ^ k := by
  have := pow62 h; have := pow_pos k; exact wrap_id (by omega) (by omega)

theorem and_mask {x : Int} {k : Nat} (h : k ≤ 62) : bits .and .i64 x (2 ^ k - 1) = x % 2 ^ k := by
  have hp := pow62 h
  have hp1 := pow_pos k
  have hb : (BitVec.ofInt 64 ((2 : Int) ^ k - 1)).toNat = 2 ^ k - 1 := by
    have e : ((2 : Int) ^ k - 1) = ((2 ^ k - 1 : Nat) : Int) := by
      have : 1 ≤ 2 ^ k := Nat.one_le_two_pow
      rw [Int.ofNat_sub this]; simp
    rw [e, BitVec.ofInt_natCast, BitVec.toNat_ofNat]
    have : (2 : Nat) ^ k ≤ 2 ^ 62 := Nat.pow_le_pow_right (by decide) h
    exact Nat.mod_eq_of_lt (by omega)
  show IntKind.i64.wrap ((BitVec.ofInt 64 x &&& BitVec.ofInt 64 (2 ^ k - 1)).toNat : Int) = _
  rw [BitVec.toNat_and, hb, Nat.and_two_pow_sub_one_eq_mod, BitVec.toNat_ofInt]
  have e2 : (((x % ((2 ^ 64 : Nat) : Int)).toNat % 2 ^ k : Nat) : Int) = x % 2 ^ k := by
    have hnn : 0 ≤ x % ((2 ^ 64 : Nat) : Int) := Int.emod_nonneg _ (by decide)
    have hd : ((2 : Int) ^ k) ∣ ((2 ^ 64 : Nat) : Int) := by
      refine ⟨2 ^ (64 - k), ?_⟩
      rw [← Int.pow_add, show k + (64 - k) = 64 by omega]; rfl
    rw [Int.natCast_emod, Int.toNat_of_nonneg hnn]
    rw [show (((2 : Nat) ^ k : Nat) : Int) = (2 : Int) ^ k by simp]
    exact Int.emod_emod_of_dvd x hd
  rw [e2]
  have h0 : 0 ≤ x % 2 ^ k := Int.emod_nonneg _ (by omega)
  have h1 : x % 2 ^ k < 2 ^ k := Int.emod_lt_of_pos _ (by omega)
  exact IntWalk.i64_in _ (by omega)

/-- Is the quotient q with the rest r of d rounded up, by mode m? -/
def upB (m q r d : Int) : Bool := (m == 1 && decide (q < 0) && decide (0 < r)) || (m == 2 && decide (d ≤ 2 * r)) || (m == 3 && (decide (d < 2 * r) || (decide (2 * r = d) && !(q.tmod 2 == 0))))
/-- The quotient, rounded. -/
def rndQ (m q r d : Int) : Int := if upB m q r d = true then q + 1 else q
def rnd (x n m : Int) : Int := rndQ m (x / 2 ^ n.toNat) (x % 2 ^ n.toNat) (2 ^ n.toNat)

theorem run_assert_int {P : Program} {t xT : TypeId} {k : IntKind} {v : Value} {w : World} (hu : P.underlying t = some (.int k)) :
    (Instr.typeAssert (.iface t v) xT t true).run P w = .ok (.tuple #[v, .bool true]) w := by
  simp [Instr.typeAssert, run_underlying hu]

/-- The least and the greatest word of so many bits. -/
def loW (b : Int) : Int := -2 ^ (b.toNat - 1)
def hiW (b : Int) : Int := 2 ^ (b.toNat - 1) - 1
theorem powW (b : Int) (h2 : b ≤ 32) : (1 : Int) ≤ 2 ^ (b.toNat - 1) ∧ (2 : Int) ^ (b.toNat - 1) ≤ 2147483648 := by
  refine ⟨pow_pos _, ?_⟩
  have := pow_le (j := b.toNat - 1) (k := 31) (by omega)
  simpa using this
def chkF (b s : Int) : Int := if b < 2 ∨ 32 < b ∨ s < -64 ∨ 64 < s then 3 else 0
def inB (b x : Int) : Bool := decide (loW b ≤ x) && decide (x ≤ hiW b)
def clipF (b x : Int) : Int := if x < loW b then loW b else if hiW b < x then hiW b else x
def cutF (b x : Int) : Bool := !(clipF b x == x)

theorem Ext.step {w w1 w2 : World} (h : Ext w w1) (k : Ext w1 w2) : Ext w w2 := h.trans k

end Go.Proofs.YtkocmdpfknoiaaaGreatDoor
