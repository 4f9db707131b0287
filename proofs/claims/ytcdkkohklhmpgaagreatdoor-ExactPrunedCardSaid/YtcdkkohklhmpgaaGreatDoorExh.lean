/- Arguments that are lists of numbers, of ints, of lists of ints. -/
import Derived.Test.YtcdkkohklhmpgaaGreatDoorDgp
import Derived.Test.YtcdkkohklhmpgaaGreatDoorLix
namespace Go.Proofs.YtcdkkohklhmpgaaGreatDoor
open Go.ChangeShapes Go.WideShapes Go.ChangeAt Go.RowKit

section
variable {H : Type} {enc : TypeId × Value → H} {w : World} {base : Nat} {held : Bool}
set_option maxRecDepth 100000 in
theorem dy_cells {m : Nat} {cs : List Value} {y : DataW H × List MemPlace} (h : DataW.trod enc Tryz.prog w base (fun _ => true) held m 24 cs = some y) :
    ∃ (neg : Bool) (A : Option Addr) (n c : Nat) (den : Int) (f : Nat → Nat), cs = [.bool neg, .slice A n c, I den] ∧ Rd w A n f ∧ SlOk A n c ∧ (∀ i, i < n → f i < 4294967296) := by
  obtain ⟨xs, n0, _, _, hl, hlen, hf⟩ := DataW.trod_struct Tryz.underlying24 h
  have h3 : cs.length = 3 := by rw [hl]; kernel_rfl
  match xs, hlen with
  | [y0, y1, y2], _ =>
    match cs, h3 with
    | [c0, c1, c2], _ =>
      have k0 : Tryz.prog.cellsOf 4 = 1 := by kernel_rfl
      have k1 : Tryz.prog.cellsOf 22 = 1 := by kernel_rfl
      have k2 : Tryz.prog.cellsOf 3 = 1 := by kernel_rfl
      have e0 : DataW.trod enc Tryz.prog w base (fun _ => true) held n0 4 (([c0, c1, c2].drop 0).take (Tryz.prog.cellsOf 4)) = some y0 := hf 0 _ rfl
      have e1 : DataW.trod enc Tryz.prog w base (fun _ => true) held n0 22 (([c0, c1, c2].drop 1).take (Tryz.prog.cellsOf 22)) = some y1 := hf 1 _ rfl
      have e2 : DataW.trod enc Tryz.prog w base (fun _ => true) held n0 3 (([c0, c1, c2].drop 2).take (Tryz.prog.cellsOf 3)) = some y2 := hf 2 _ rfl
      rw [k0] at e0
      rw [k1] at e1
      rw [k2] at e2
      obtain ⟨neg, h0, _⟩ := DataW.trod_bool Tryz.underlying4 e0
      obtain ⟨A, n, c, f, h1, ok, rd, hb⟩ := word_slice Tryz.underlying22 Tryz.underlying153 (by kernel_rfl) e1
      obtain ⟨den, h2, _, _⟩ := DataW.trod_int Tryz.underlying3 e2
      cases h0; cases h1; cases h2
      exact ⟨neg, A, n, c, den, f, rfl, rd, ok, hb⟩
set_option maxRecDepth 100000 in
theorem open_nums {w' : World} {b0 : Nat} {v : Value} {d : DataW H} {p : List MemPlace}
    (hv : Value.okWide Tryz.prog w' .any b0 62 v) (h : DataW.Trod enc Tryz.prog w base (fun _ => true) held 62 v d p) :
    ∃ (A : Option Addr) (n c : Nat) (R : Nat → RN) (F : Nat → Nat → Nat), v = .slice A n c ∧ Sts w A n R F := by
  obtain ⟨a, L, cap, rfl⟩ := okWide_slice Tryz.underlying62 hv
  obtain ⟨fuel, h1⟩ := h
  obtain ⟨A, n, c, e1, hn, _, hx⟩ := rows_slice Tryz.underlying62 (k := 3) (by kernel_rfl) (by omega) h1
  have e2 : [Value.slice a L cap] = [Value.slice A n c] := by simpa [Value.cells] using e1
  simp only [List.cons.injEq, and_true, Value.slice.injEq] at e2
  obtain ⟨rfl, rfl, rfl⟩ := e2
  rcases Nat.eq_zero_or_pos L with h0 | h0
  · exact ⟨_, _, _, fun _ => RN.z, fun _ _ => 0, rfl, ⟨fun h => by omega, hn, fun i hi => by omega, fun i hi => by omega, fun i hi => by omega⟩⟩
  · obtain ⟨b, o, ea, hb, hr⟩ := hx h0
    have : ∀ i, ∃ q : RN × (Nat → Nat), i < L → (w.cell? ⟨b, o + i * 3, none⟩ = some (.bool q.1.neg) ∧ w.cell? ⟨b, o + i * 3 + 1, none⟩ = some (.slice q.1.A q.1.n q.1.c) ∧ w.cell? ⟨b, o + i * 3 + 2, none⟩ = some (I q.1.den)) ∧
        Rd w q.1.A q.1.n q.2 ∧ SlOk q.1.A q.1.n q.1.c ∧ (∀ j, j < q.1.n → q.2 j < 4294967296) := fun i => by
      by_cases hi : i < L
      · obtain ⟨cs', y, m', hl', hc', ht'⟩ := hr i hi
        obtain ⟨neg, A, n, c, den, f, rfl, rd, ok, hb⟩ := dy_cells ht'
        exact ⟨(⟨neg, A, n, c, den⟩, f), fun _ => ⟨⟨hc' 0 (by omega), hc' 1 (by omega), hc' 2 (by omega)⟩, rd, ok, hb⟩⟩
      · exact ⟨(RN.z, fun _ => 0), fun h => absurd h hi⟩
    exact ⟨_, _, _, fun i => (Classical.choose (this i)).1, fun i => (Classical.choose (this i)).2, rfl, ⟨fun _ => ⟨b, o, ea, hb, fun i hi => (Classical.choose_spec (this i) hi).1⟩, hn,
      fun i hi => (Classical.choose_spec (this i) hi).2.1, fun i hi => (Classical.choose_spec (this i) hi).2.2.1, fun i hi => (Classical.choose_spec (this i) hi).2.2.2⟩⟩
set_option maxRecDepth 100000 in
theorem open_ints' {w' : World} {b0 : Nat} {v : Value} {d : DataW H} {p : List MemPlace}
    (hv : Value.okWide Tryz.prog w' .any b0 46 v) (h : DataW.Trod enc Tryz.prog w base (fun _ => true) held 46 v d p) :
    ∃ (A : Option Addr) (n c : Nat) (X : Nat → Int), v = .slice A n c ∧ Ri w A n X ∧ n ≤ maxLen ∧ ∀ i, i < n → in64 (X i) := by
  obtain ⟨a, L, cap, rfl⟩ := okWide_slice Tryz.underlying46 hv
  obtain ⟨fuel, h1⟩ := h
  obtain ⟨A, n, c, X, e1, hn, r, _, hw⟩ := ri_slice h1
  have e2 : [Value.slice a L cap] = [Value.slice A n c] := by simpa [Value.cells] using e1
  simp only [List.cons.injEq, and_true, Value.slice.injEq] at e2
  obtain ⟨rfl, rfl, rfl⟩ := e2
  exact ⟨_, _, _, X, rfl, r, hn, hw⟩
set_option maxRecDepth 100000 in
theorem open_lists {w' : World} {b0 : Nat} {v : Value} {d : DataW H} {p : List MemPlace}
    (hv : Value.okWide Tryz.prog w' .any b0 49 v) (h : DataW.Trod enc Tryz.prog w base (fun _ => true) held 49 v d p) :
    ∃ (A : Option Addr) (n c : Nat) (AA : Nat → Option Addr) (m cc : Nat → Nat) (IN : Nat → Nat → Int), v = .slice A n c ∧ Lli w A n AA m cc IN ∧ n ≤ maxLen ∧ ∀ t, t < n → ∀ i, i < m t → in64 (IN t i) := by
  obtain ⟨a, L, cap, rfl⟩ := okWide_slice Tryz.underlying49 hv
  obtain ⟨fuel, h1⟩ := h
  obtain ⟨A, n, c, e1, hn, _, hx⟩ := rows_slice Tryz.underlying49 (k := 1) (by kernel_rfl) (by omega) h1
  have e2 : [Value.slice a L cap] = [Value.slice A n c] := by simpa [Value.cells] using e1
  simp only [List.cons.injEq, and_true, Value.slice.injEq] at e2
  obtain ⟨rfl, rfl, rfl⟩ := e2
  rcases Nat.eq_zero_or_pos L with h0 | h0
  · exact ⟨_, _, _, fun _ => none, fun _ => 0, fun _ => 0, fun _ _ => 0, rfl, ⟨fun h => by omega, fun t ht => by omega⟩, hn, fun t ht => by omega⟩
  · obtain ⟨b, o, ea, hb, hr⟩ := hx h0
    have : ∀ t, ∃ q : Option Addr × Nat × Nat × (Nat → Int), t < L → w.cell? ⟨b, o + t, none⟩ = some (.slice q.1 q.2.1 q.2.2.1) ∧ Ri w q.1 q.2.1 q.2.2.2 ∧ q.2.1 ≤ maxLen ∧ ∀ i, i < q.2.1 → in64 (q.2.2.2 i) := fun t => by
      by_cases ht : t < L
      · obtain ⟨cs', y, m', hl', hc', ht'⟩ := hr t ht
        obtain ⟨A, n, c, f, rfl, hn, r, _, hw⟩ := ri_slice ht'
        exact ⟨(A, n, c, f), fun _ => ⟨by have := hc' 0 (by omega); rw [Nat.mul_one] at this; exact this, r, hn, hw⟩⟩
      · exact ⟨(none, 0, 0, fun _ => 0), fun h => absurd h ht⟩
    exact ⟨_, _, _, fun t => (Classical.choose (this t)).1, fun t => (Classical.choose (this t)).2.1, fun t => (Classical.choose (this t)).2.2.1, fun t => (Classical.choose (this t)).2.2.2, rfl,
      ⟨fun _ => ⟨b, o, ea, hb, fun t ht => (Classical.choose_spec (this t) ht).1⟩, fun t ht => ⟨(Classical.choose_spec (this t) ht).2.1, (Classical.choose_spec (this t) ht).2.2.1⟩⟩, hn, fun t ht => (Classical.choose_spec (this t) ht).2.2.2⟩
end
end Go.Proofs.YtcdkkohklhmpgaaGreatDoor
