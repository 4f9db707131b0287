import Derived.WalkKit
import Derived.BigQuiet
import Derived.Deep.QuietTactic
import Derived.Lib.Hide
namespace Go.Proofs.YtgnngldlgcdnfaaGreatDoor
section
open Go.RowKit
abbrev I (n : Int) : Value := .int .i64 n
def Ext (w w' : World) : Prop := Below w.heap.size w w'
theorem Ext.refl (w : World) : Ext w w := Below.refl _ w
theorem Ext.trans {a b c : World} (h : Ext a b) (k : Ext b c) : Ext a c := Below.trans h (Below.mono k (Below.size h))
theorem Ext.alloc (w : World) (o : Obj) : Ext w (w.alloc o) := (Below.refl _ _).alloc (Nat.le_refl _) o
theorem Ext.drewN (w : World) (n : Nat) : Ext w (w.drewN n) := ⟨rfl, rfl, rfl, Nat.le_refl _, fun _ _ => rfl⟩
theorem Ext.drew (w : World) : Ext w w.drew := (Below.refl _ _).drew
theorem Ext.old {w w' : World} (h : Ext w w') : (∀ b o, b < w.heap.size → w'.cell? ⟨b, o, none⟩ = w.cell? ⟨b, o, none⟩) ∧ (∀ b o, b < w.heap.size → w'.frozen? ⟨b, o, none⟩ = w.frozen? ⟨b, o, none⟩) :=
 ⟨fun b o hb => Below.cell h (p := ⟨b, o, none⟩) hb, fun b o hb => Below.frozen h (p := ⟨b, o, none⟩) hb⟩
theorem Ext.set {w w' : World} (h : Ext w w') {p : Addr} (hp : w.heap.size ≤ p.block) (u : Value) : Ext w (w'.setCell p u) := Below.setCell h hp u
theorem Ext.size {w w' : World} (h : Ext w w') : w.heap.size ≤ w'.heap.size := Below.size h
structure Later (w : World) where
 to : World
 ext : Ext w to
instance (w : World) : Nonempty (Later w) := ⟨⟨w, Ext.refl w⟩⟩
theorem Later.cell {w : World} (x : Later w) (b o : Nat) (h : b < w.heap.size) : x.to.cell? ⟨b, o, none⟩ = w.cell? ⟨b, o, none⟩ := x.ext.old.1 b o h
theorem Later.frozen {w : World} (x : Later w) (b o : Nat) (h : b < w.heap.size) : x.to.frozen? ⟨b, o, none⟩ = w.frozen? ⟨b, o, none⟩ := x.ext.old.2 b o h
theorem wp_region_later {P : Program} {id : Nat} {Q : Exit → Act → World → Prop} {a : Act} {w : World} {l : List Oper} (hm : P.follows .mixedOrders = true) (hB : Region.lexB .any l.toArray = true)
  (h : wpQuiet P l.toArray (fun w' => ∃ x : Later w, w' = x.to) (fun a' => ∀ w', (∃ x : Later w, w' = x.to) → Q .normal a' w') l a) : (Code.region id l.toArray true).wp P Q a w :=
 wp_region_quiet (C := fun w' => ∃ x : Later w, w' = x.to) hm hB ⟨⟨_, Ext.drew w⟩, rfl⟩ (by simpa using h)
theorem Later.of {w w' : World} (h : ∃ x : Later w, w' = x.to) : Ext w w' := by obtain ⟨x, rfl⟩ := h; exact x.ext
theorem Calls.later {P : Program} {f : FuncId} {args : Array Value} {w : World} {x : Later w} {v : Value}
  (h : Calls P f args x.to fun e w' => e = .returned v ∧ Ext x.to w') : Calls P f args x.to fun e w'' => e = .returned v ∧ ∃ y : Later w, w'' = y.to :=
 h.mono fun _ w' ⟨he, hw⟩ => ⟨he, ⟨w', x.ext.trans hw⟩, rfl⟩
theorem pow_pos (k : Nat) : (1 : Int) ≤ 2 ^ k := by
 have := Int.pow_pos (n := 2) (m := k) (by decide); omega
theorem pow_le {j k : Nat} (h : j ≤ k) : (2 : Int) ^ j ≤ 2 ^ k := by
 have := Nat.pow_le_pow_right (n := 2) (by decide) h; exact_mod_cast this
theorem run_assert_int {P : Program} {t xT : TypeId} {k : IntKind} {v : Value} {w : World} (hu : P.underlying t = some (.int k)) :
  (Instr.typeAssert (.iface t v) xT t true).run P w = .ok (.tuple #[v, .bool true]) w := by
 simp [Instr.typeAssert, run_underlying hu]
theorem Ext.step {w w1 w2 : World} (h : Ext w w1) (k : Ext w1 w2) : Ext w w2 := h.trans k
end
section
section
def fstE : Nat → (Nat → Int) → Int
 | 0, _ => 0
 | n + 1, f => if fstE n f = 0 then f n else fstE n f
theorem fstE_none {n : Nat} {f : Nat → Int} (h : ∀ i, i < n → f i = 0) : fstE n f = 0 := by
 induction n with
 | zero => rfl
 | succ n ih => unfold fstE; rw [if_pos (ih fun i hi => h i (by omega))]; exact h n (by omega)
theorem fstE_hit {n j : Nat} {f : Nat → Int} (h : ∀ i, i < j → f i = 0) (hj : j < n) (hf : f j ≠ 0) : fstE n f = f j := by
 induction n with
 | zero => omega
 | succ n ih =>
  unfold fstE
  by_cases e : j = n
  ·subst e; rw [if_pos (fstE_none h)]
  ·rw [if_neg (by rw [ih (by omega)]; exact hf), ih (by omega)]
theorem fstE_zero {n : Nat} {f : Nat → Int} (h : fstE n f = 0) (i : Nat) (hi : i < n) : f i = 0 := by
 induction n with
 | zero => omega
 | succ n ih =>
  unfold fstE at h
  by_cases e : fstE n f = 0
  ·rw [if_pos e] at h
   by_cases c : i = n
   ·subst c; exact h
   ·exact ih e (by omega)
  ·rw [if_neg e] at h; exact absurd h e
def fstI : Nat → (Nat → Bool) → Int
 | 0, _ => -1
 | n + 1, q => if fstI n q < 0 then (if q n = true then (n : Int) else -1) else fstI n q
theorem fstI_none {n : Nat} {q : Nat → Bool} (h : ∀ i, i < n → q i = false) : fstI n q = -1 := by
 induction n with
 | zero => rfl
 | succ n ih => unfold fstI; rw [ih fun i hi => h i (by omega), h n (by omega)]; rfl
theorem fstI_hit {n j : Nat} {q : Nat → Bool} (h : ∀ i, i < j → q i = false) (hj : j < n) (hq : q j = true) : fstI n q = j := by
 induction n with
 | zero => omega
 | succ n ih =>
  unfold fstI
  by_cases e : j = n
  ·subst e; rw [fstI_none h, hq]; rfl
  ·rw [ih (by omega), if_neg (by omega)]
theorem fstI_cases (n : Nat) (q : Nat → Bool) : (fstI n q = -1 ∧ ∀ i, i < n → q i = false) ∨ ∃ j : Nat, j < n ∧ fstI n q = j ∧ q j = true ∧ ∀ i, i < j → q i = false := by
 induction n with
 | zero => exact .inl ⟨rfl, fun i hi => absurd hi (by omega)⟩
 | succ n ih =>
  rcases ih with ⟨h1, h2⟩ | ⟨j, h1, h2, h3, h4⟩
  ·cases hq : q n with
   | true => exact .inr ⟨n, by omega, by unfold fstI; rw [h1, hq]; rfl, hq, h2⟩
   | false => exact .inl ⟨by unfold fstI; rw [h1, hq]; rfl, fun i hi => by
     by_cases e : i = n
     ·subst e; exact hq
     ·exact h2 i (by omega)⟩
  ·exact .inr ⟨j, by omega, by unfold fstI; rw [h2, if_neg (by omega)], h3, h4⟩
def cnt : Nat → (Nat → Bool) → Nat
 | 0, _ => 0
 | n + 1, p => cnt n p + if p n = true then 1 else 0
theorem cnt_le (n : Nat) (p : Nat → Bool) : cnt n p ≤ n := by
 induction n with
 | zero => exact Nat.le_refl 0
 | succ n ih => unfold cnt; split <;> omega
theorem cnt_congr {n : Nat} {p q : Nat → Bool} (h : ∀ i, i < n → p i = q i) : cnt n p = cnt n q := by
 induction n with
 | zero => rfl
 | succ n ih => unfold cnt; rw [ih fun i hi => h i (by omega), h n (by omega)]
theorem cnt_put {n j : Nat} {p q : Nat → Bool} (hj : j < n) (h0 : p j = false) (hq : q j = true) (h : ∀ i, i ≠ j → q i = p i) : cnt n q = cnt n p + 1 := by
 induction n with
 | zero => omega
 | succ n ih =>
  unfold cnt
  by_cases e : j = n
  ·subst e
   rw [hq, h0, cnt_congr (p := q) (q := p) fun i hi => h i (by omega)]
   simp
  ·rw [ih (by omega), h n (by omega)]; omega
theorem cnt_mono {n : Nat} {p q : Nat → Bool} (h : ∀ i, i < n → p i = true → q i = true) : cnt n p ≤ cnt n q := by
 induction n with
 | zero => exact Nat.le_refl 0
 | succ n ih =>
  unfold cnt
  have a := ih fun i hi => h i (by omega)
  have b := h n (by omega)
  cases hp : p n with
  | true => rw [b hp]; simp; exact a
  | false => simp; omega
theorem cnt_eq {n : Nat} {p q : Nat → Bool} (h : ∀ i, i < n → p i = true → q i = true) (hc : cnt n q ≤ cnt n p) (i : Nat) (hi : i < n) (hq : q i = true) : p i = true := by
 induction n with
 | zero => omega
 | succ n ih =>
  have a := cnt_mono (n := n) fun i hi => h i (by omega)
  have b := h n (by omega)
  unfold cnt at hc
  by_cases e : i = n
  ·subst e
   cases hp : p i with
   | true => rfl
   | false => rw [hp, hq] at hc; simp at hc; omega
  ·refine ih (fun i hi => h i (by omega)) ?_ (by omega)
   cases hp : p n with
   | true => rw [hp, b hp] at hc; simp at hc; exact hc
   | false => rw [hp] at hc; simp at hc; omega
structure Blk where
 k : Int
 n : Nat
 a : Nat → Int
 vn : Int
 ve : Int
 un : Int
 ue : Int
structure Prt where
 lo : Int
 hi : Int
 fr : Int
structure Dia where
 ni : Nat
 P : Nat → Prt
 nb : Nat
 B : Nat → Blk
 no : Nat
 O : Nat → Int
def arity (k : Int) : Int := if k = 1 then 0 else if k = 3 ∨ k = 4 ∨ k = 7 ∨ k = 8 ∨ k = 9 then 2 else 1
def usesV (k : Int) : Bool := k == 1 || k == 2 || k == 6 || k == 11
def prtE (p : Prt) : Int := if -2147483648 ≤ p.lo ∧ p.lo ≤ p.hi ∧ p.hi < 2147483648 ∧ 0 ≤ p.fr ∧ p.fr ≤ 30 then 0 else 3
def inE (c : Int) (i : Int) : Int := if 0 ≤ i ∧ i < c then 0 else 10
def scE (used : Bool) (n e : Int) : Int :=
 if used = true then (if n ≤ -2147483648 ∨ 2147483648 ≤ n ∨ e < -62 ∨ 30 < e then 3 else 0) else (if n = 0 ∧ e = 0 then 0 else 2)
def gtS (n e m f : Int) : Bool := decide (m * 2 ^ (f + 62).toNat < n * 2 ^ (e + 62).toNat)
def cntB (D : Dia) (b : Blk) : Int := if b.k = 0 then D.ni else D.nb
def blkE (D : Dia) (b : Blk) : Int :=
 if b.k < 0 ∨ 11 < b.k then 7 else
 if (b.n : Int) ≠ arity b.k then 11 else
 if fstE b.n (fun i => inE (cntB D b) (b.a i)) ≠ 0 then fstE b.n (fun i => inE (cntB D b) (b.a i)) else
 if scE (usesV b.k) b.vn b.ve ≠ 0 then scE (usesV b.k) b.vn b.ve else
 if scE (b.k == 11) b.un b.ue ≠ 0 then scE (b.k == 11) b.un b.ue else
 if b.k = 11 ∧ gtS b.vn b.ve b.un b.ue = true then 26 else 0
def isD (D : Dia) (i : Nat) : Bool := (D.B i).k == 2
def ns (D : Dia) (i : Nat) : Nat := if (D.B i).k = 0 then 0 else (D.B i).n
def sr (D : Dia) (i j : Nat) : Nat := ((D.B i).a j).toNat
def allN (n : Nat) (q : Nat → Bool) : Bool := fstI n (fun i => !q i) == -1
theorem allN_iff {n : Nat} {q : Nat → Bool} : allN n q = true ↔ ∀ i, i < n → q i = true := by
 unfold allN
 constructor
 ·intro h i hi
  rcases fstI_cases n (fun i => !q i) with ⟨_, h2⟩ | ⟨j, _, h2, _, _⟩
  ·have := h2 i hi; simpa using this
  ·rw [h2] at h; simp at h
 ·intro h
  rw [fstI_none fun i hi => by simp [h i hi]]; rfl
theorem allN_false {n : Nat} {q : Nat → Bool} : allN n q = false ↔ ∃ i, i < n ∧ q i = false := by
 constructor
 ·intro h
  rcases fstI_cases n (fun i => !q i) with ⟨h1, _⟩ | ⟨j, h1, _, h3, _⟩
  ·unfold allN at h; rw [h1] at h; simp at h
  ·exact ⟨j, h1, by simpa using h3⟩
 ·intro ⟨i, hi, hq⟩
  cases h : allN n q with
  | false => rfl
  | true => rw [allN_iff.1 h i hi] at hq; cases hq
def rdy (D : Dia) (p : Nat → Bool) (i : Nat) : Bool := !p i && !isD D i && allN (ns D i) fun j => p (sr D i j) || isD D (sr D i j)
def inL (L : List Nat) : Nat → Bool := fun i => L.contains i
def ordF (D : Dia) : Nat → List Nat → List Nat
 | 0, L => L
 | n + 1, L => if fstI D.nb (rdy D (inL L)) < 0 then L else ordF D n (L ++ [(fstI D.nb (rdy D (inL L))).toNat])
def ordL (D : Dia) : List Nat := ordF D D.nb []
def mkL : Nat → (Nat → Bool) → List Nat
 | 0, _ => []
 | n + 1, p => mkL n p ++ if p n = true then [n] else []
def delL (D : Dia) : List Nat := mkL D.nb (isD D)
def chk (D : Dia) : Int :=
 if 16 < D.ni ∨ 64 < D.nb ∨ 16 < D.no then 4 else
 if fstE D.ni (fun i => prtE (D.P i)) ≠ 0 then fstE D.ni (fun i => prtE (D.P i)) else
 if fstE D.nb (fun i => blkE D (D.B i)) ≠ 0 then fstE D.nb (fun i => blkE D (D.B i)) else
 if fstE D.no (fun i => inE D.nb (D.O i)) ≠ 0 then fstE D.no (fun i => inE D.nb (D.O i)) else
 if (ordL D).length + (delL D).length < D.nb then 24 else 0
structure WF (D : Dia) : Prop where
 ni : D.ni ≤ 16
 nb : D.nb ≤ 64
 no : D.no ≤ 16
 k0 : ∀ i, i < D.nb → 0 ≤ (D.B i).k ∧ (D.B i).k ≤ 11
 ar : ∀ i, i < D.nb → ((D.B i).n : Int) = arity (D.B i).k
 arg : ∀ i, i < D.nb → ∀ j, j < (D.B i).n → 0 ≤ (D.B i).a j ∧ (D.B i).a j < cntB D (D.B i)
theorem inE_zero {c i : Int} (h : inE c i = 0) : 0 ≤ i ∧ i < c := by
 unfold inE at h
 by_cases q : 0 ≤ i ∧ i < c
 ·exact q
 ·rw [if_neg q] at h; omega
theorem blkE_zero {D : Dia} {b : Blk} (h : blkE D b = 0) : 0 ≤ b.k ∧ b.k ≤ 11 ∧ (b.n : Int) = arity b.k ∧ ∀ j, j < b.n → 0 ≤ b.a j ∧ b.a j < cntB D b := by
 unfold blkE at h
 by_cases h1 : b.k < 0 ∨ 11 < b.k
 ·rw [if_pos h1] at h; omega
 rw [if_neg h1] at h
 by_cases h2 : (b.n : Int) ≠ arity b.k
 ·rw [if_pos h2] at h; omega
 rw [if_neg h2] at h
 by_cases h3 : fstE b.n (fun i => inE (cntB D b) (b.a i)) ≠ 0
 ·rw [if_pos h3] at h; exact absurd h h3
 refine ⟨by omega, by omega, by omega, fun j hj => ?_⟩
 exact inE_zero (fstE_zero (f := fun i => inE (cntB D b) (b.a i)) (by omega) j hj)
theorem chk_wf {D : Dia} (h1 : D.ni ≤ 16) (h2 : D.nb ≤ 64) (h3 : D.no ≤ 16) (h : fstE D.nb (fun i => blkE D (D.B i)) = 0) : WF D where
 ni := h1
 nb := h2
 no := h3
 k0 := fun i hi => by have := blkE_zero (fstE_zero h i hi); exact ⟨this.1, this.2.1⟩
 ar := fun i hi => (blkE_zero (fstE_zero h i hi)).2.2.1
 arg := fun i hi => (blkE_zero (fstE_zero h i hi)).2.2.2
structure OkD (D : Dia) : Prop extends WF D where
 be : ∀ i, i < D.nb → blkE D (D.B i) = 0
 pe : ∀ i, i < D.ni → prtE (D.P i) = 0
 out : ∀ j, j < D.no → 0 ≤ D.O j ∧ D.O j < D.nb
 cyc : D.nb ≤ (ordL D).length + (delL D).length
theorem chk_ok {D : Dia} (h : chk D = 0) : OkD D := by
 unfold chk at h
 by_cases h1 : 16 < D.ni ∨ 64 < D.nb ∨ 16 < D.no
 ·rw [if_pos h1] at h; omega
 rw [if_neg h1] at h
 by_cases h2 : fstE D.ni (fun i => prtE (D.P i)) ≠ 0
 ·rw [if_pos h2] at h; exact absurd h h2
 rw [if_neg h2] at h
 by_cases h3 : fstE D.nb (fun i => blkE D (D.B i)) ≠ 0
 ·rw [if_pos h3] at h; exact absurd h h3
 rw [if_neg h3] at h
 by_cases h4 : fstE D.no (fun i => inE D.nb (D.O i)) ≠ 0
 ·rw [if_pos h4] at h; exact absurd h h4
 rw [if_neg h4] at h
 by_cases h5 : (ordL D).length + (delL D).length < D.nb
 ·rw [if_pos h5] at h; omega
 exact { chk_wf (by omega) (by omega) (by omega) (by omega) with
  be := fun i hi => fstE_zero (f := fun i => blkE D (D.B i)) (by omega) i hi
  pe := fun i hi => fstE_zero (f := fun i => prtE (D.P i)) (by omega) i hi
  out := fun i hi => inE_zero (fstE_zero (f := fun i => inE D.nb (D.O i)) (by omega) i hi)
  cyc := by omega }
theorem WF.src {D : Dia} (h : WF D) {i j : Nat} (hi : i < D.nb) (hj : j < ns D i) : ((D.B i).a j) = (sr D i j : Nat) ∧ sr D i j < D.nb ∧ ns D i ≤ 2 := by
 unfold ns at hj ⊢
 by_cases e : (D.B i).k = 0
 ·rw [if_pos e] at hj; omega
 ·rw [if_neg e] at hj ⊢
  have a := h.arg i hi j hj
  have b := h.ar i hi
  unfold cntB at a; rw [if_neg e] at a
  unfold sr
  refine ⟨by omega, by omega, ?_⟩
  unfold arity at b; split at b <;> (try split at b) <;> omega
theorem WF.ns2 {D : Dia} (h : WF D) {i : Nat} (hi : i < D.nb) : ns D i ≤ 2 ∧ (D.B i).n ≤ 2 := by
 have b := h.ar i hi
 have : (D.B i).n ≤ 2 := by unfold arity at b; split at b <;> (try split at b) <;> omega
 unfold ns; split <;> omega
theorem inL_app (L : List Nat) (j i : Nat) : inL (L ++ [j]) i = (inL L i || i == j) := by
 unfold inL
 rw [Bool.eq_iff_iff]
 simp [List.mem_append]
structure OrdI (D : Dia) (L : List Nat) : Prop where
 lt : ∀ i, inL L i = true → i < D.nb ∧ isD D i = false
 len : L.length + cnt D.nb (fun i => !inL L i) = D.nb
 fut : ordF D (D.nb - L.length) L = ordL D
theorem OrdI.nil (D : Dia) : OrdI D [] := ⟨fun i h => (by cases h), by
 have : cnt D.nb (fun i => !inL [] i) = cnt D.nb (fun _ => true) := rfl
 rw [this]
 have : ∀ n, cnt n (fun _ => true) = n := fun n => by
  induction n with
  | zero => rfl
  | succ n ih => unfold cnt; rw [ih]; rfl
 rw [this]; simp, rfl⟩
theorem OrdI.le {D : Dia} {L : List Nat} (h : OrdI D L) : L.length ≤ D.nb := by have := h.len; omega
theorem OrdI.app {D : Dia} {L : List Nat} (h : OrdI D L) {j : Nat} (hj : j < D.nb) (hf : fstI D.nb (rdy D (inL L)) = j) (hr : rdy D (inL L) j = true) : OrdI D (L ++ [j]) := by
 have hr' := hr
 unfold rdy at hr'
 simp only [Bool.and_eq_true, Bool.not_eq_true'] at hr'
 have hp := cnt_put (n := D.nb) (j := j) (p := fun i => inL L i) (q := fun i => inL (L ++ [j]) i) hj hr'.1.1 (by rw [inL_app]; simp) (fun i hi => by rw [inL_app]; simp [hi])
 have hn := cnt_put (n := D.nb) (j := j) (p := fun i => !inL (L ++ [j]) i) (q := fun i => !inL L i) hj (by rw [inL_app]; simp) (by simp [hr'.1.1]) (fun i hi => by rw [inL_app]; simp [hi])
 have hl := h.len
 refine ⟨fun i hi => ?_, by simp; omega, ?_⟩
 ·rw [inL_app] at hi
  simp only [Bool.or_eq_true, beq_iff_eq] at hi
  rcases hi with hi | rfl
  ·exact h.lt i hi
  ·exact ⟨hj, hr'.1.2⟩
 ·rw [← h.fut]
  have e : D.nb - L.length = (D.nb - (L ++ [j]).length) + 1 := by simp; omega
  rw [e]
  show _ = if fstI D.nb (rdy D (inL L)) < 0 then L else ordF D _ (L ++ [(fstI D.nb (rdy D (inL L))).toNat])
  rw [hf, if_neg (by omega)]; simp
theorem OrdI.fin {D : Dia} {L : List Nat} (h : OrdI D L) (hf : fstI D.nb (rdy D (inL L)) = -1) : ordL D = L := by
 rw [← h.fut]
 cases e : D.nb - L.length with
 | zero => rfl
 | succ n => show (if _ then _ else _) = _; rw [hf]; rfl
theorem OrdI.room {D : Dia} {L : List Nat} (h : OrdI D L) {j : Nat} (hj : j < D.nb) (hr : rdy D (inL L) j = true) : L.length < D.nb := by
 have hl := h.len
 unfold rdy at hr
 simp only [Bool.and_eq_true, Bool.not_eq_true'] at hr
 have := cnt_put (n := D.nb) (j := j) (p := fun i => !inL (L ++ [j]) i) (q := fun i => !inL L i) hj (by rw [inL_app]; simp) (by simp [hr.1.1]) (fun i hi => by rw [inL_app]; simp [hi])
 omega
theorem ord_end (D : Dia) : OrdI D (ordL D) ∧ fstI D.nb (rdy D (inL (ordL D))) = -1 := by
 have : ∀ n L, OrdI D L → D.nb - L.length = n → OrdI D (ordF D n L) ∧ fstI D.nb (rdy D (inL (ordF D n L))) = -1 := by
  intro n
  induction n with
  | zero =>
   intro L h e
   refine ⟨h, ?_⟩
   rcases fstI_cases D.nb (rdy D (inL L)) with ⟨h1, _⟩ | ⟨j, h1, _, h3, _⟩
   ·exact h1
   ·have := h.room h1 h3; omega
  | succ n ih =>
   intro L h e
   unfold ordF
   rcases fstI_cases D.nb (rdy D (inL L)) with ⟨h1, _⟩ | ⟨j, h1, h2, h3, _⟩
   ·rw [h1, if_pos (by omega)]; exact ⟨h, h1⟩
   ·rw [h2, if_neg (by omega)]
    exact ih _ (by rw [Int.toNat_natCast]; exact h.app h1 h2 h3) (by simp; omega)
 exact this _ _ (OrdI.nil D) (by simp)
theorem mem_mkL {n : Nat} {p : Nat → Bool} {i : Nat} : i ∈ mkL n p ↔ i < n ∧ p i = true := by
 induction n with
 | zero => simp [mkL]
 | succ n ih =>
  unfold mkL
  rw [List.mem_append, ih]
  cases hp : p n with
  | true =>
   simp
   constructor
   ·rintro (⟨h1, h2⟩ | rfl)
    ·exact ⟨by omega, h2⟩
    ·exact ⟨by omega, hp⟩
   ·intro ⟨h1, h2⟩
    by_cases e : i = n
    ·exact .inr e
    ·exact .inl ⟨by omega, h2⟩
  | false =>
   have q : i ∉ (if false = true then [n] else []) := by simp
   constructor
   ·rintro (⟨h1, h2⟩ | h)
    ·exact ⟨by omega, h2⟩
    ·exact absurd h q
   ·intro ⟨h1, h2⟩
    refine .inl ⟨?_, h2⟩
    by_cases e : i = n
    ·subst e; rw [hp] at h2; cases h2
    ·omega
theorem mkL_len (n : Nat) (p : Nat → Bool) : (mkL n p).length = cnt n p := by
 induction n with
 | zero => rfl
 | succ n ih => unfold mkL cnt; rw [List.length_append, ih]; split <;> simp
end
section
theorem mkL_sorted (n : Nat) (p : Nat → Bool) : (mkL n p).Pairwise (· < ·) := by
 induction n with
 | zero => exact List.Pairwise.nil
 | succ n ih =>
  unfold mkL
  rw [List.pairwise_append]
  refine ⟨ih, by split <;> simp, fun a ha b hb => ?_⟩
  have := (mem_mkL.1 ha).1
  split at hb
  ·rw [List.mem_singleton] at hb; omega
  ·cases hb
end
end
section
open Go.RowKit
theorem Ext.toAlloc {w w' : World} {o : Obj} (h : Ext w w') : Ext w (w'.alloc o) := h.trans (Ext.alloc _ _)
theorem Ext.toDrew {w w' : World} (h : Ext w w') : Ext w w'.drew := h.trans (Ext.drew _)
theorem Ext.toDrewN {w w' : World} {n : Nat} (h : Ext w w') : Ext w (w'.drewN n) := h.trans (Ext.drewN _ _)
theorem Ext.toSet {w w' : World} {g i : Nat} {u : Value} (h : Ext w w') (hg : w.heap.size ≤ g) : Ext w (w'.setCell ⟨g, i, none⟩ u) := h.set hg u
theorem ex2 {w w' : World} (h : Ext w w' := by (with_reducible (repeat (first | exact Ext.refl _ | assumption | (refine Ext.toSet ?_ (by omega)) | refine Ext.toAlloc ?_ | refine Ext.toDrew ?_ | refine Ext.toDrewN ?_ | refine Ext.trans ?_ (by assumption)))); (first | done | fail "no")) : Ext w w' := h
theorem ext3 {w w' : World} (h : Ext w w' := by repeat (first | exact Ext.refl _ | assumption | exact Ext.alloc _ _ | refine Ext.trans ?_ (by assumption) | refine Ext.trans ?_ (Ext.alloc _ _) | refine Ext.trans ?_ (Ext.drewN _ _) | refine Ext.trans ?_ (Ext.drew _))) : Ext w w' := h
end
end Go.Proofs.YtgnngldlgcdnfaaGreatDoor
