/- The fixed-point machine: law CodeOrders: minimum, maximum, sum and difference agree. -/
import Derived.Test.YtommlhdiefoocaaKdk
import Derived.Test.YtommlhdiefoocaaKdl
import Derived.BigQuiet
import Derived.Test.YtommlhdiefoocaaKnc
namespace Go.Proofs.Ytommlhdiefoocaa
open Go Go.RowKit

/-- A program of n instructions that writes cell j + 2 out of the cells 0 and 1. -/
theorem runC_fix {X : Nat → Ins} {IN C V : Nat → Int} (n : Nat) (hd : ∀ j, j < n → (X j).dst = (j : Int) + 2) (hv : ∀ j, j < n → ∀ c : Nat → Int, c 0 = C 0 → c 1 = C 1 → reC (X j) c IN = V j) (hw : ∀ j, j < n → wdB (V j) = true) :
    runC X IN C n = (fun i => if 2 ≤ i ∧ i < n + 2 then V (i - 2) else C i, false) := by
  induction n with
  | zero =>
    show (C, false) = _
    congr 1
    funext i
    rw [if_neg (by omega)]
  | succ n ih =>
    rw [runC_step, ih (fun j hj => hd j (by omega)) (fun j hj => hv j (by omega)) (fun j hj => hw j (by omega))]
    have e := hv n (by omega) (fun i => if 2 ≤ i ∧ i < n + 2 then V (i - 2) else C i) (if_neg (by omega)) (if_neg (by omega))
    simp only []
    rw [e, hd n (by omega)]
    have hs : sat (V n) = V n := by have h := wdB_iff.1 (hw n (by omega)); exact kcl_id h.1 h.2
    rw [hs]
    congr 1
    · funext i
      by_cases hi : i = n + 2
      · subst hi; rw [if_pos (by omega), if_pos (by omega)]; congr 1
      · rw [if_neg (by omega)]
        by_cases h2 : 2 ≤ i ∧ i < n + 2
        · rw [if_pos h2, if_pos (by omega)]
        · rw [if_neg h2, if_neg (by omega)]
    · simp
def orX (sa sb : Int) (j : Nat) : Ins :=
  if j = 0 then ⟨8, 2, 0, 1, sa, sb, 0⟩ else if j = 1 then ⟨9, 3, 0, 1, sa, sb, 0⟩ else if j = 2 then ⟨3, 4, 0, 1, sa, sb, 0⟩ else if j = 3 then ⟨4, 5, 0, 1, sa, sb, 0⟩ else
  if j = 4 then ⟨2, 6, 0, 0, sa, 0, 0⟩ else if j = 5 then ⟨2, 7, 1, 0, sb, 0, 0⟩ else if j = 6 then ⟨5, 8, 0, 0, sa, 0, 0⟩ else ⟨10, 9, 0, 0, sa, 0, 0⟩
def orV (p q : Int) (j : Nat) : Int :=
  if j = 0 then min p q else if j = 1 then max p q else if j = 2 then p + q else if j = 3 then p - q else if j = 4 then p else if j = 5 then q else if j = 6 then -p else max p (-p)
def orC (a b : Int) (i : Nat) : Int := if i = 0 then a else if i = 1 then b else 0
def orG (a b sa sb : Int) : Pgm := ⟨0, fun _ => ⟨0, 0, 0⟩, 10, orC a b, 8, orX sa sb, 8, fun i => (i : Int) + 2⟩
theorem cases8 {j : Nat} (h : j < 8) : j = 0 ∨ j = 1 ∨ j = 2 ∨ j = 3 ∨ j = 4 ∨ j = 5 ∨ j = 6 ∨ j = 7 := by omega
theorem orG_ok {a b sa sb : Int} (ha : wdB a = true) (hb : wdB b = true) (h1 : shB sa = true) (h2 : shB sb = true) : chP (orG a b sa sb) = 0 := by
  refine chP_of ⟨by show 0 ≤ 16; omega, by show 10 ≤ 192; omega, by show 8 ≤ 256; omega, by show 8 ≤ 16; omega, fun i hi => absurd hi (by show ¬ i < 0; omega), fun i hi => ?_, fun i hi => ?_, fun i hi => ?_⟩
  · show wdB (orC a b i) = true
    unfold orC; split
    · exact ha
    · split
      · exact hb
      · rfl
  · show insE 0 10 (orX sa sb i) = 0
    rcases cases8 hi with h | h | h | h | h | h | h | h <;> subst h
    · show insE 0 10 ⟨8, 2, 0, 1, sa, sb, 0⟩ = 0
      rw [insE_F]; simp only [h1, h2]; cases (sa == 0) <;> cases (sb == 0) <;> decide
    · show insE 0 10 ⟨9, 3, 0, 1, sa, sb, 0⟩ = 0
      rw [insE_F]; simp only [h1, h2]; cases (sa == 0) <;> cases (sb == 0) <;> decide
    · show insE 0 10 ⟨3, 4, 0, 1, sa, sb, 0⟩ = 0
      rw [insE_F]; simp only [h1, h2]; cases (sa == 0) <;> cases (sb == 0) <;> decide
    · show insE 0 10 ⟨4, 5, 0, 1, sa, sb, 0⟩ = 0
      rw [insE_F]; simp only [h1, h2]; cases (sa == 0) <;> cases (sb == 0) <;> decide
    · show insE 0 10 ⟨2, 6, 0, 0, sa, 0, 0⟩ = 0
      rw [insE_F]; simp only [h1]; cases (sa == 0) <;> decide
    · show insE 0 10 ⟨2, 7, 1, 0, sb, 0, 0⟩ = 0
      rw [insE_F]; simp only [h2]; cases (sb == 0) <;> decide
    · show insE 0 10 ⟨5, 8, 0, 0, sa, 0, 0⟩ = 0
      rw [insE_F]; simp only [h1]; cases (sa == 0) <;> decide
    · show insE 0 10 ⟨10, 9, 0, 0, sa, 0, 0⟩ = 0
      rw [insE_F]; simp only [h1]; cases (sa == 0) <;> decide
  · show ixB (10 : Nat) ((i : Int) + 2) = true
    have : i < 8 := hi
    exact ixB_iff.2 (by omega)
theorem or_sh {a k : Int} (h1 : -32768 ≤ a) (h2 : a ≤ 32767) (h3 : k ≤ 14) : -536870912 ≤ shC a k ∧ shC a k ≤ 536870912 := by
  unfold shC
  split
  · have := div_bd (x := a) (B := 32768) (pow_pos (-k).toNat) (by omega) (by omega) (by omega); omega
  · rw [kcl_id (by omega) (by omega)]
    have hp : (2 : Int) ^ k.toNat ≤ 16384 := by have := pow_le (j := k.toNat) (k := 14) (by omega); simpa using this
    have := mul_bd (x := a) (B := 32768) (by omega) (by omega) (show (0 : Int) ≤ 2 ^ k.toNat by have := pow_pos k.toNat; omega) hp (by omega)
    omega
theorem orG_run {a b sa sb : Int} (h1 : -32768 ≤ a) (h2 : a ≤ 32767) (h3 : -32768 ≤ b) (h4 : b ≤ 32767) (h5 : sa ≤ 14) (h6 : sb ≤ 14) (IN : Nat → Int) :
    runC (orG a b sa sb).X IN (orG a b sa sb).C 8 = (fun i => if 2 ≤ i ∧ i < 10 then orV (shC a sa) (shC b sb) (i - 2) else orC a b i, false) := by
  have hp := or_sh h1 h2 h5
  have hq := or_sh h3 h4 h6
  refine runC_fix (X := orX sa sb) (C := orC a b) (V := orV (shC a sa) (shC b sb)) 8 (fun j hj => ?_) (fun j hj c e0 e1 => ?_) (fun j hj => ?_)
  · rcases cases8 hj with h | h | h | h | h | h | h | h <;> subst h <;> rfl
  · have f0 : c 0 = a := e0
    have f1 : c 1 = b := e1
    rcases cases8 hj with h | h | h | h | h | h | h | h <;> subst h
    · show min (shC (c 0) sa) (shC (c 1) sb) = _; rw [f0, f1]; rfl
    · show max (shC (c 0) sa) (shC (c 1) sb) = _; rw [f0, f1]; rfl
    · show shC (c 0) sa + shC (c 1) sb = _; rw [f0, f1]; rfl
    · show shC (c 0) sa - shC (c 1) sb = _; rw [f0, f1]; rfl
    · show shC (c 0) sa = _; rw [f0]; rfl
    · show shC (c 1) sb = _; rw [f1]; rfl
    · show -shC (c 0) sa = _; rw [f0]; rfl
    · show max (shC (c 0) sa) (-shC (c 0) sa) = _; rw [f0]; rfl
  · refine wdB_iff.2 ?_
    generalize shC a sa = p at *
    generalize shC b sb = q at *
    rcases cases8 hj with h | h | h | h | h | h | h | h <;> subst h
    · show -2147483648 ≤ min p q ∧ min p q ≤ 2147483647; omega
    · show -2147483648 ≤ max p q ∧ max p q ≤ 2147483647; omega
    · show -2147483648 ≤ p + q ∧ p + q ≤ 2147483647; omega
    · show -2147483648 ≤ p - q ∧ p - q ≤ 2147483647; omega
    · show -2147483648 ≤ p ∧ p ≤ 2147483647; omega
    · show -2147483648 ≤ q ∧ q ≤ 2147483647; omega
    · show -2147483648 ≤ -p ∧ -p ≤ 2147483647; omega
    · show -2147483648 ≤ max p (-p) ∧ max p (-p) ≤ 2147483647; omega

def orQ (g : Nat) : Pp := ⟨none, 0, some ⟨g, 0, none⟩, 10, some ⟨g + 1 + 1, 0, none⟩, 8, some ⟨g + 1, 0, none⟩, 8⟩
set_option maxRecDepth 100000 in
theorem or_world (wd : World) (a b sa sb : Int) : Pm ((((wd.alloc (.cells #[I a, I b, I 0, I 0, I 0, I 0, I 0, I 0, I 0, I 0] 3)).alloc (.cells #[I 2, I 3, I 4, I 5, I 6, I 7, I 8, I 9] 3)).alloc (.cells #[I 8, I 2, I 0, I 1, I sa, I sb, I 0, I 9, I 3, I 0, I 1, I sa, I sb, I 0, I 3, I 4, I 0, I 1, I sa, I sb, I 0, I 4, I 5, I 0, I 1, I sa, I sb, I 0, I 2, I 6, I 0, I 0, I sa, I 0, I 0, I 2, I 7, I 1, I 0, I sb, I 0, I 0, I 5, I 8, I 0, I 0, I sa, I 0, I 0, I 10, I 9, I 0, I 0, I sa, I 0, I 0] 52)).alloc (.cells #[.slice none 0 0, .slice (some ⟨wd.heap.size, 0, none⟩) 10 10, .slice (some ⟨wd.heap.size + 1 + 1, 0, none⟩) 8 8, .slice (some ⟨wd.heap.size + 1, 0, none⟩) 8 8] 26)) (orG a b sa sb) (orQ wd.heap.size) ∧ Px ((((wd.alloc (.cells #[I a, I b, I 0, I 0, I 0, I 0, I 0, I 0, I 0, I 0] 3)).alloc (.cells #[I 2, I 3, I 4, I 5, I 6, I 7, I 8, I 9] 3)).alloc (.cells #[I 8, I 2, I 0, I 1, I sa, I sb, I 0, I 9, I 3, I 0, I 1, I sa, I sb, I 0, I 3, I 4, I 0, I 1, I sa, I sb, I 0, I 4, I 5, I 0, I 1, I sa, I sb, I 0, I 2, I 6, I 0, I 0, I sa, I 0, I 0, I 2, I 7, I 1, I 0, I sb, I 0, I 0, I 5, I 8, I 0, I 0, I sa, I 0, I 0, I 10, I 9, I 0, I 0, I sa, I 0, I 0] 52)).alloc (.cells #[.slice none 0 0, .slice (some ⟨wd.heap.size, 0, none⟩) 10 10, .slice (some ⟨wd.heap.size + 1 + 1, 0, none⟩) 8 8, .slice (some ⟨wd.heap.size + 1, 0, none⟩) 8 8] 26)) (wd.heap.size + 1 + 1 + 1) (orG a b sa sb) (orQ wd.heap.size) ∧ Ext wd ((((wd.alloc (.cells #[I a, I b, I 0, I 0, I 0, I 0, I 0, I 0, I 0, I 0] 3)).alloc (.cells #[I 2, I 3, I 4, I 5, I 6, I 7, I 8, I 9] 3)).alloc (.cells #[I 8, I 2, I 0, I 1, I sa, I sb, I 0, I 9, I 3, I 0, I 1, I sa, I sb, I 0, I 3, I 4, I 0, I 1, I sa, I sb, I 0, I 4, I 5, I 0, I 1, I sa, I sb, I 0, I 2, I 6, I 0, I 0, I sa, I 0, I 0, I 2, I 7, I 1, I 0, I sb, I 0, I 0, I 5, I 8, I 0, I 0, I sa, I 0, I 0, I 10, I 9, I 0, I 0, I sa, I 0, I 0] 52)).alloc (.cells #[.slice none 0 0, .slice (some ⟨wd.heap.size, 0, none⟩) 10 10, .slice (some ⟨wd.heap.size + 1 + 1, 0, none⟩) 8 8, .slice (some ⟨wd.heap.size + 1, 0, none⟩) 8 8] 26)) := by
  refine ⟨⟨fun h => absurd h (by show ¬ 0 < 0; omega), ?_, ?_, ?_, by show 0 ≤ _; omega, by show 10 ≤ maxLen; unfold maxLen; omega, by show 8 ≤ maxLen; unfold maxLen; omega, by show 8 ≤ maxLen; unfold maxLen; omega, fun e => (by cases e), Nat.le_refl _⟩, ?_, (((Ext.alloc _ _).toAlloc).toAlloc).toAlloc⟩
  · refine (((ri_new (n := 10) (f := orC a b) rfl fun i hi => ?_).ext (Ext.alloc _ _)).ext (Ext.alloc _ _)).ext (Ext.alloc _ _)
    have : i = 0 ∨ i = 1 ∨ i = 2 ∨ i = 3 ∨ i = 4 ∨ i = 5 ∨ i = 6 ∨ i = 7 ∨ i = 8 ∨ i = 9 := by omega
    rcases this with h | h | h | h | h | h | h | h | h | h <;> subst h <;> rfl
  · refine (rx_new (n := 8) (X := orX sa sb) (by simp) fun i hi => ?_).ext (Ext.alloc _ _)
    rcases cases8 hi with h | h | h | h | h | h | h | h <;> subst h <;> exact ⟨rfl, rfl, rfl, rfl, rfl, rfl, rfl⟩
  · refine ((ri_new (n := 8) (f := fun i => (i : Int) + 2) (by simp) fun i hi => ?_).ext (Ext.alloc _ _)).ext (Ext.alloc _ _)
    rcases cases8 hi with h | h | h | h | h | h | h | h <;> subst h <;> rfl
  · have e : wd.heap.size + 1 + 1 + 1 = (((wd.alloc (.cells #[I a, I b, I 0, I 0, I 0, I 0, I 0, I 0, I 0, I 0] 3)).alloc (.cells #[I 2, I 3, I 4, I 5, I 6, I 7, I 8, I 9] 3)).alloc (.cells #[I 8, I 2, I 0, I 1, I sa, I sb, I 0, I 9, I 3, I 0, I 1, I sa, I sb, I 0, I 3, I 4, I 0, I 1, I sa, I sb, I 0, I 4, I 5, I 0, I 1, I sa, I sb, I 0, I 2, I 6, I 0, I 0, I sa, I 0, I 0, I 2, I 7, I 1, I 0, I sb, I 0, I 0, I 5, I 8, I 0, I 0, I sa, I 0, I 0, I 10, I 9, I 0, I 0, I sa, I 0, I 0] 52)).heap.size := by simp
    exact ⟨new_cell _ _ _ e rfl, new_cell _ _ _ e rfl, new_cell _ _ _ e rfl, new_cell _ _ _ e rfl⟩
/-- What the law asks of its run. -/
def OrR (p q : Int) (w : World) (e : Ending) (w' : World) : Prop := ∃ A k B l, e = .returned (.tuple #[.agg #[.slice A 10 k, .slice B 8 l, .bool false], .nilIface]) ∧ Ri w' B 8 (orV p q) ∧ Ext w w'
theorem or_call {w : World} {q : Pp} {a b sa sb : Int} (d : Pm w (orG a b sa sb) q) (ha : -32768 ≤ a ∧ a ≤ 32767) (hb : -32768 ≤ b ∧ b ≤ 32767) (hsa : -15 ≤ sa ∧ sa ≤ 14) (hsb : -15 ≤ sb ∧ sb ≤ 14) :
    Calls Try.prog 15 #[pgv (orG a b sa sb) q, .slice q.AC (orG a b sa sb).nc q.cC, .slice none 0 0] w (OrR (shC a sa) (shC b sb) w) := by
  have hc : chP (orG a b sa sb) = 0 := orG_ok (wdB_iff.2 (by omega)) (wdB_iff.2 (by omega)) (shB_iff.2 (by omega)) (shB_iff.2 (by omega))
  have hd : daE (orG a b sa sb) (orG a b sa sb).nc (orG a b sa sb).C 0 (fun _ => 0) = 0 := daE_of (G := orG a b sa sb) (chP_ok hc).wd (fun i hi => absurd hi (by show ¬ i < 0; omega))
  refine (Run_ok (cA := q.cC) (cB := 0) d hc d.init Ri.none_ d.nC hd).mono fun e w' hr => ?_
  obtain ⟨A', k', B, l, he, _, r2, _, _, _, _, _, hx⟩ := hr
  have hrun := orG_run (sa := sa) (sb := sb) ha.1 ha.2 hb.1 hb.2 hsa.2 hsb.2 (fun _ => 0)
  refine ⟨A', k', B, l, ?_, r2.congr (fun i hi => ?_), hx⟩
  · rw [he]
    have : (runC (orG a b sa sb).X (fun _ => 0) (orG a b sa sb).C (orG a b sa sb).ni).2 = false := by show (runC (orG a b sa sb).X (fun _ => 0) (orG a b sa sb).C 8).2 = false; rw [hrun]
    rw [this]; rfl
  · show (runC (orG a b sa sb).X (fun _ => 0) (orG a b sa sb).C 8).1 ((i : Int) + 2).toNat = _
    have hi' : i < 8 := hi
    rw [hrun, show ((i : Int) + 2).toNat = i + 2 by omega]
    show (if 2 ≤ i + 2 ∧ i + 2 < 10 then orV (shC a sa) (shC b sb) (i + 2 - 2) else orC a b (i + 2)) = _
    rw [if_pos (by omega), Nat.add_sub_cancel]

set_option maxRecDepth 100000 in
set_option maxHeartbeats 4000000 in
theorem orders_any {W : World} {a b x y : Int} (ha : -32768 ≤ a ∧ a ≤ 32767) (hb : -32768 ≤ b ∧ b ≤ 32767) (hx : 0 ≤ x ∧ x ≤ 255) (hy : 0 ≤ y ∧ y ≤ 255) :
    Calls Try.prog 8 #[.int .i16 a, .int .i16 b, .agg #[.int .u8 x, .int .u8 y]] W fun e w' => e = .returned (.bool true) ∧ Ext W w' := by
  have HW := Lib.hid awakeP_any
  obtain ⟨W1, hW1⟩ : ∃ W1, W1 = W.alloc (.cells #[.int .u8 x, .int .u8 y] 58) := ⟨_, rfl⟩
  have HE1 : Hid (Ext W W1) := by rw [hW1]; exact Ext.alloc _ _
  have x0 : W1.cell? ⟨W.heap.size, 0, none⟩ = some (.int .u8 x) := by rw [hW1]; go_simp
  have x1 : W1.cell? ⟨W.heap.size, 1, none⟩ = some (.int .u8 y) := by rw [hW1]; go_simp
  have hl : W.heap.size < W1.heap.size := by rw [hW1]; simp
  go_enter Try.func8, Try.ntmps8
  go_upto_region 1 with fail
  rw [← hW1]; clear hW1
  go_upto_region 3 with (go_at_call 10; (with_reducible refine (HW.out _).mono ?_); rintro e wa ⟨rfl, hx1⟩; have y0 := (hx1.old.1 _ 0 hl).trans x0; have y1 := (hx1.old.1 _ 1 hl).trans x1; have hla := Nat.lt_of_lt_of_le hl hx1.size; have HEA := Lib.hid (HE1.out.trans hx1); clear hx1 x0 x1 hl)
  go_quiet (fail)
  have hsa : -15 ≤ x % 30 - 15 ∧ x % 30 - 15 ≤ 14 := by omega
  have hsb : -15 ≤ y % 30 - 15 ∧ y % 30 - 15 ≤ 14 := by omega
  have HEB := Lib.hid (HEA.out.trans (Ext.drewN wa nq))
  obtain ⟨wd, hwd⟩ : ∃ wd, wd = wa.drewN nq := ⟨_, rfl⟩
  rw [← hwd] at HEB ⊢
  clear hwd y0 y1 hla HEA
  generalize x % 30 - 15 = sa at *
  generalize y % 30 - 15 = sb at *
  go_upto_region 5 with fail
  have HOW := Lib.hid (or_world wd a b sa sb)
  obtain ⟨W5, hW5⟩ : ∃ W5, W5 = ((((wd.alloc (.cells #[I a, I b, I 0, I 0, I 0, I 0, I 0, I 0, I 0, I 0] 3)).alloc (.cells #[I 2, I 3, I 4, I 5, I 6, I 7, I 8, I 9] 3)).alloc (.cells #[I 8, I 2, I 0, I 1, I sa, I sb, I 0, I 9, I 3, I 0, I 1, I sa, I sb, I 0, I 3, I 4, I 0, I 1, I sa, I sb, I 0, I 4, I 5, I 0, I 1, I sa, I sb, I 0, I 2, I 6, I 0, I 0, I sa, I 0, I 0, I 2, I 7, I 1, I 0, I sb, I 0, I 0, I 5, I 8, I 0, I 0, I sa, I 0, I 0, I 10, I 9, I 0, I 0, I sa, I 0, I 0] 52)).alloc (.cells #[.slice none 0 0, .slice (some ⟨wd.heap.size, 0, none⟩) 10 10, .slice (some ⟨wd.heap.size + 1 + 1, 0, none⟩) 8 8, .slice (some ⟨wd.heap.size + 1, 0, none⟩) 8 8] 26)) := ⟨_, rfl⟩
  rw [← hW5] at HOW ⊢
  clear hW5
  have HE := Lib.hid (HEB.out.trans HOW.out.2.2)
  obtain ⟨Q, hQ⟩ : ∃ Q, orQ wd.heap.size = Q := ⟨_, rfl⟩
  rw [hQ] at HOW
  clear hQ
  have HPM := Lib.hid HOW.out.1
  obtain ⟨c0, c1, c2, c3⟩ := HOW.out.2.1
  have HRUN := Lib.hid (or_call HPM.out ha hb hsa hsb)
  have hp := or_sh ha.1 ha.2 hsa.2
  have hq := or_sh hb.1 hb.2 hsb.2
  generalize shC a sa = p at *
  generalize shC b sb = q at *
  unfold OrR at HRUN
  clear HOW
  go_upto_region 6 with (go_at_call 15; (with_reducible refine HRUN.out.mono ?_); rintro e w3 ⟨A', k', B', l', rfl, r2, hx'⟩)
  clear c0 c1 c2 c3
  have HB4 := Lib.hid (box3r w3 (.slice A' 10 k') (.slice B' 8 l') (.bool false) 35)
  have HO4 := Lib.hid (r2.ext (Ext.alloc w3 (.cells #[.slice A' 10 k', .slice B' 8 l', .bool false] 35)))
  have HX4 : Hid (Ext W5 (w3.alloc (.cells #[.slice A' 10 k', .slice B' 8 l', .bool false] 35))) := hx'.toAlloc
  obtain ⟨W4, hW4⟩ : ∃ W4, W4 = w3.alloc (.cells #[.slice A' 10 k', .slice B' 8 l', .bool false] 35) := ⟨_, rfl⟩
  rw [← hW4] at HB4 HO4 HX4 ⊢
  clear hW4 hx' r2 HRUN
  generalize w3.heap.size = gr at *
  have g1 : W4.cell? ⟨gr, 1, none⟩ = some (.slice B' 8 l') := HB4.out.cell (by omega)
  have g2 : W4.cell? ⟨gr, 2, none⟩ = some (.bool false) := HB4.out.cell (by omega)
  have gl : gr < W4.heap.size := HB4.out.lt
  obtain ⟨b2, o2, eb, hb2, hc2⟩ := HO4.out (by omega)
  have y0 : W4.cell? ⟨b2, o2, none⟩ = some (I (min p q)) := hc2 0 (by omega)
  have y1 : W4.cell? ⟨b2, o2 + 1, none⟩ = some (I (max p q)) := hc2 1 (by omega)
  have y2 : W4.cell? ⟨b2, o2 + 2, none⟩ = some (I (p + q)) := hc2 2 (by omega)
  have y3 : W4.cell? ⟨b2, o2 + 3, none⟩ = some (I (p - q)) := hc2 3 (by omega)
  have y4 : W4.cell? ⟨b2, o2 + 4, none⟩ = some (I p) := hc2 4 (by omega)
  have y5 : W4.cell? ⟨b2, o2 + 5, none⟩ = some (I q) := hc2 5 (by omega)
  have y6 : W4.cell? ⟨b2, o2 + 6, none⟩ = some (I (-p)) := hc2 6 (by omega)
  have y7 : W4.cell? ⟨b2, o2 + 7, none⟩ = some (I (max p (-p))) := hc2 7 (by omega)
  obtain ⟨mn, hmn⟩ : ∃ mn, min p q = mn := ⟨_, rfl⟩
  obtain ⟨mx, hmx⟩ : ∃ mx, max p q = mx := ⟨_, rfl⟩
  obtain ⟨ab, hab⟩ : ∃ ab, max p (-p) = ab := ⟨_, rfl⟩
  obtain ⟨su, hsu⟩ : ∃ su, p + q = su := ⟨_, rfl⟩
  obtain ⟨di, hdi⟩ : ∃ di, p - q = di := ⟨_, rfl⟩
  obtain ⟨ne, hne⟩ : ∃ ne, -p = ne := ⟨_, rfl⟩
  have hle : mn ≤ mx := by omega
  have w1 : IntKind.i64.wrap (mn + mx) = su := by rw [show mn + mx = su by omega]; exact IntWalk.i64_in _ (by omega)
  have w2 : IntKind.i64.wrap (p + q) = su := by rw [hsu]; exact IntWalk.i64_in _ (by omega)
  have w3' : IntKind.i64.wrap (p - q) = di := by rw [hdi]; exact IntWalk.i64_in _ (by omega)
  have w4 : IntKind.i64.wrap (-p) = ne := by rw [hne]; exact IntWalk.i64_in _ (by omega)
  rw [hab] at y7
  rw [hne] at y6 hab
  rw [hmn] at y0
  rw [hmx] at y1
  rw [hsu] at y2
  rw [hdi] at y3
  have hor : mn = p ∨ mn = q := by omega
  have HFE := Lib.hid (HE.out.trans HX4.out)
  subst eb
  clear hc2 HB4 HO4 HX4 hp hq ha hb hx hy hsa hsb hmn hmx hsu hdi hne HPM HE HW
  go_upto_region 8 with fail
  go_cut [12] (fun s12 wx => s12 = .slice (some ⟨b2, o2, none⟩) 8 l' ∧ W4 = wx)
  case first =>
    go_wp2_with fail
    go_meet
    exact ⟨rfl, rfl⟩
  case rest =>
    obtain ⟨rfl, rfl⟩ := hcut
    clear g1 g2 gl
    by_cases hpq : mn = p
    · have h1 : (mn == p) = true := by simp [hpq]
      clear hor hpq
      as_aux_lemma =>
        go_upto_region 9 with fail
        (try dsimp only [List.append])
        have hb := Ext.refl W4
        have hL := fun (x : Later _) => (Ext.trans hb x.ext).old.1
        refine wp_region_later (by kernel_rfl) (by kernel_rfl) ?_
        iterate 16 (go_big_quiet_step (fail))
        as_aux_lemma =>
          iterate 16 (go_big_quiet_step (fail))
          as_aux_lemma =>
            iterate 16 (go_big_quiet_step (fail))
            as_aux_lemma =>
              iterate 16 (go_big_quiet_step (fail))
              as_aux_lemma =>
                repeat (go_big_quiet_step (fail))
                refine wpQuiet_nil ?_
                intro w2 hw2
                replace hb := Ext.trans hb (Later.of hw2)
                clear hw2 hL
                go_wp2_with fail
                all_goals (go_ret; exact ⟨by first | rfl | (simp; omega), HFE.out.trans hb⟩)
    · have h1 : (mn == p) = false := by simpa using hpq
      have h2 : (mn == q) = true := by simp; omega
      clear hor hpq
      as_aux_lemma =>
        go_upto_region 9 with fail
        (try dsimp only [List.append])
        have hb := Ext.refl W4
        have hL := fun (x : Later _) => (Ext.trans hb x.ext).old.1
        refine wp_region_later (by kernel_rfl) (by kernel_rfl) ?_
        iterate 16 (go_big_quiet_step (fail))
        as_aux_lemma =>
          iterate 16 (go_big_quiet_step (fail))
          as_aux_lemma =>
            iterate 16 (go_big_quiet_step (fail))
            as_aux_lemma =>
              iterate 16 (go_big_quiet_step (fail))
              as_aux_lemma =>
                repeat (go_big_quiet_step (fail))
                refine wpQuiet_nil ?_
                intro w2 hw2
                replace hb := Ext.trans hb (Later.of hw2)
                clear hw2 hL
                go_wp2_with fail
                all_goals (go_ret; exact ⟨by first | rfl | (simp; omega), HFE.out.trans hb⟩)
end Go.Proofs.Ytommlhdiefoocaa
