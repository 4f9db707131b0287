/- Arguments that are programs and what a run begins with. -/
import Derived.Test.YtommlhdiefoocaaSlicei
import Derived.Test.YtommlhdiefoocaaKdb
import Derived.Deep.Slices
namespace Go.Proofs.Ytommlhdiefoocaa
open Go.ChangeShapes Go.WideShapes Go.ChangeAt Go.RowKit

/-- n numbers of 32 bits behind A. -/
def R32 (w : World) (A : Option Addr) (n : Nat) (f : Nat → Int) : Prop :=
  0 < n → ∃ b o, A = some ⟨b, o, none⟩ ∧ b < w.heap.size ∧ ∀ i, i < n → w.cell? ⟨b, o + i, none⟩ = some (.int .i32 (f i))
theorem R32.ext {w w' : World} {A : Option Addr} {n : Nat} {f : Nat → Int} (h : R32 w A n f) (e : Ext w w') : R32 w' A n f := fun hn => by
  obtain ⟨b, o, rfl, hb, hc⟩ := h hn
  exact ⟨b, o, rfl, Nat.lt_of_lt_of_le hb e.size, fun i hi => (e.old.1 _ _ hb).trans (hc i hi)⟩
theorem ri_sliceP {H : Type} {enc : TypeId × Value → H} {w : World} {base : Nat} {held : Bool} {fuel : Nat} {cs : List Value} {x : DataW H × List MemPlace}
    (h : DataW.trod enc Try.prog w base (fun _ => true) held fuel 23 cs = some x) :
    ∃ (A : Option Addr) (n c : Nat) (f : Nat → Int), cs = [.slice A n c] ∧ n ≤ maxLen ∧ Ri w A n f ∧ (A = none → c = 0) := by
  rcases open_ints Try.underlying23 Try.underlying3 (by kernel_rfl) h with ⟨rfl, _⟩ | ⟨a, len, cap, zs, rfl, _, hl, hm, hz, _, hcell, hwf⟩
  · exact ⟨none, 0, 0, fun _ => 0, rfl, Nat.zero_le _, Ri.none_, fun _ => rfl⟩
  · rw [if_pos rfl] at hz
    refine ⟨some a, len, cap, fun i => zs.getD i 0, rfl, by omega, fun h1 => ?_, fun q => (by cases q)⟩
    obtain ⟨b, off, rfl, hc'⟩ := ints_at hcell (by omega)
    exact ⟨b, off, rfl, World.block_lt_of_cell? w _ (hc' 0 (by omega)), fun i hi => hc' i (by omega)⟩
section
variable {H : Type} {enc : TypeId × Value → H} {w : World} {base : Nat} {held : Bool}
/-- A slice of structs: where it lies, what its cells hold. -/
theorem rows_sliceP {t e : TypeId} {k : Nat} {fuel : Nat} {cs : List Value} {x : DataW H × List MemPlace} (ht : Try.prog.underlying t = some (.slice e)) (hk : Try.prog.cellsOf e = k) (h0 : 0 < k)
    (h : DataW.trod enc Try.prog w base (fun _ => true) held fuel t cs = some x) :
    ∃ (A : Option Addr) (n c : Nat), cs = [.slice A n c] ∧ n ≤ maxLen ∧ n ≤ c ∧ (0 < n → ∃ b o, A = some ⟨b, o, none⟩ ∧ b < w.heap.size ∧
      ∀ i, i < n → ∃ (cs' : List Value) (y : DataW H × List MemPlace) (m : Nat), cs'.length = k ∧ (∀ j, j < k → w.cell? ⟨b, o + i * k + j, none⟩ = cs'[j]?) ∧ DataW.trod enc Try.prog w base (fun _ => true) held m e cs' = some y) := by
  rcases Go.Deep.open_slice ht h with ⟨rfl, _⟩ | ⟨a, len, cap, m, n, D, Pl, rfl, hb, hl, hm, hmm, rfl, hx⟩
  · exact ⟨none, 0, 0, rfl, Nat.zero_le _, Nat.le_refl _, fun h => by omega⟩
  · rw [if_pos rfl] at hmm
    refine ⟨some a, len, cap, rfl, by omega, hl, fun h1 => ?_⟩
    rw [hk] at hx
    obtain ⟨b, off, spot⟩ := a
    obtain ⟨cs0, hc0, ht0⟩ := hx 0 (by omega)
    obtain ⟨_, hl0, hat0⟩ := World.cells?_some hc0
    have hcell := hat0 0 h0
    rw [List.getElem?_eq_getElem (by omega)] at hcell
    have hspot : spot = none := by
      have := World.cell?_spot hcell
      simpa [Addr.add] using this
    subst hspot
    refine ⟨b, off, rfl, ?_, fun i hi => ?_⟩
    · rw [Go.WideShapes.add_plain, Go.WideShapes.add_plain] at hcell
      exact World.block_lt_of_cell? w _ hcell
    · obtain ⟨cs', hc', ht'⟩ := hx i (by omega)
      obtain ⟨_, hl', hat'⟩ := World.cells?_some hc'
      refine ⟨cs', _, n, hl', fun j hj => ?_, ht'⟩
      rw [← hat' j hj, Go.WideShapes.add_plain, Go.WideShapes.add_plain]
theorem port_intsP {m : Nat} {cs : List Value} {y : DataW H × List MemPlace} (h : DataW.trod enc Try.prog w base (fun _ => true) held m 62 cs = some y) : ∃ a b c, cs = [I a, I b, I c] := by
  have hf := flat_of_trod (P := Try.prog) 3 (ks := [some .i64, some .i64, some .i64]) (by kernel_rfl) h
  obtain ⟨a, l1, rfl, _, h1⟩ := flat_i hf
  obtain ⟨b, l2, rfl, _, h2⟩ := flat_i h1
  obtain ⟨c, l3, rfl, _, h3⟩ := flat_i h2
  obtain rfl := flat_nil h3
  exact ⟨a, b, c, rfl⟩
theorem instr_ints {m : Nat} {cs : List Value} {y : DataW H × List MemPlace} (h : DataW.trod enc Try.prog w base (fun _ => true) held m 52 cs = some y) : ∃ x : Ins, cs = [I x.op, I x.dst, I x.a, I x.b, I x.sa, I x.sb, I x.im] := by
  have hf := flat_of_trod (P := Try.prog) 3 (ks := [some .i64, some .i64, some .i64, some .i64, some .i64, some .i64, some .i64]) (by kernel_rfl) h
  obtain ⟨a, l1, rfl, _, h1⟩ := flat_i hf
  obtain ⟨b, l2, rfl, _, h2⟩ := flat_i h1
  obtain ⟨c, l3, rfl, _, h3⟩ := flat_i h2
  obtain ⟨d, l4, rfl, _, h4⟩ := flat_i h3
  obtain ⟨e, l5, rfl, _, h5⟩ := flat_i h4
  obtain ⟨f, l6, rfl, _, h6⟩ := flat_i h5
  obtain ⟨g, l7, rfl, _, h7⟩ := flat_i h6
  obtain rfl := flat_nil h7
  exact ⟨⟨a, b, c, d, e, f, g⟩, rfl⟩
set_option maxRecDepth 100000 in
theorem open_pgm {w' : World} {b0 : Nat} {v : Value} {d : DataW H} {p : List MemPlace}
    (hv : Value.okWide Try.prog w' .any b0 26 v) (h : DataW.Trod enc Try.prog w base (fun _ => true) held 26 v d p) :
    ∃ (G : Pgm) (q : Pp), v = pgv G q ∧ Pm w G q := by
  obtain ⟨cs, rfl, _⟩ := okWide_struct Try.underlying26 hv
  obtain ⟨l⟩ := cs
  obtain ⟨fuel, hd⟩ := h
  have hd' : DataW.trod enc Try.prog w base (fun _ => true) held fuel 26 l = some (d, p) := hd
  obtain ⟨xs, m, _, _, hl, hlen, hf⟩ := DataW.trod_struct Try.underlying26 hd'
  have h4 : l.length = 4 := by rw [hl]; kernel_rfl
  match xs, hlen with
  | [y0, y1, y2, y3], _ =>
    match l, h4 with
    | [c0, c1, c2, c3], _ =>
      have k0 : Try.prog.cellsOf 22 = 1 := by kernel_rfl
      have k1 : Try.prog.cellsOf 23 = 1 := by kernel_rfl
      have k2 : Try.prog.cellsOf 24 = 1 := by kernel_rfl
      have e0 : DataW.trod enc Try.prog w base (fun _ => true) held m 22 (([c0, c1, c2, c3].drop 0).take (Try.prog.cellsOf 22)) = some y0 := hf 0 _ rfl
      have e1 : DataW.trod enc Try.prog w base (fun _ => true) held m 23 (([c0, c1, c2, c3].drop 1).take (Try.prog.cellsOf 23)) = some y1 := hf 1 _ rfl
      have e2 : DataW.trod enc Try.prog w base (fun _ => true) held m 24 (([c0, c1, c2, c3].drop 2).take (Try.prog.cellsOf 24)) = some y2 := hf 2 _ rfl
      have e3 : DataW.trod enc Try.prog w base (fun _ => true) held m 23 (([c0, c1, c2, c3].drop 3).take (Try.prog.cellsOf 23)) = some y3 := hf 3 _ rfl
      rw [k0] at e0
      rw [k1] at e1 e3
      rw [k2] at e2
      obtain ⟨AP, np, cP, g0, n0, z0, r0⟩ := rows_sliceP Try.underlying22 (k := 3) (by kernel_rfl) (by omega) e0
      obtain ⟨AC, nc, cC, C, g1, n1, r1, z1⟩ := ri_sliceP e1
      obtain ⟨AX, ni, cX, g2, n2, z2, r2⟩ := rows_sliceP Try.underlying24 (k := 7) (by kernel_rfl) (by omega) e2
      obtain ⟨AO, no, cO, O, g3, n3, r3, z3⟩ := ri_sliceP e3
      cases g0; cases g1; cases g2; cases g3
      have hP : ∃ P : Nat → Prt, Rp w AP np P := by
        rcases Nat.eq_zero_or_pos np with h | h
        · exact ⟨fun _ => ⟨0, 0, 0⟩, fun h' => by omega⟩
        · obtain ⟨b, o, ea, hb, hx⟩ := r0 h
          have : ∀ i, ∃ q : Prt, i < np → w.cell? ⟨b, o + i * 3, none⟩ = some (I q.lo) ∧ w.cell? ⟨b, o + i * 3 + 1, none⟩ = some (I q.hi) ∧ w.cell? ⟨b, o + i * 3 + 2, none⟩ = some (I q.fr) := fun i => by
            by_cases hi : i < np
            · obtain ⟨cs', y, m', hl', hc', ht'⟩ := hx i hi
              obtain ⟨x0, x1, x2, rfl⟩ := port_intsP ht'
              exact ⟨⟨x0, x1, x2⟩, fun _ => ⟨hc' 0 (by omega), hc' 1 (by omega), hc' 2 (by omega)⟩⟩
            · exact ⟨⟨0, 0, 0⟩, fun h => absurd h hi⟩
          exact ⟨fun i => Classical.choose (this i), fun _ => ⟨b, o, ea, hb, fun i hi => Classical.choose_spec (this i) hi⟩⟩
      have hX : ∃ X : Nat → Ins, Rx w AX ni X := by
        rcases Nat.eq_zero_or_pos ni with h | h
        · exact ⟨fun _ => ⟨0, 0, 0, 0, 0, 0, 0⟩, fun h' => by omega⟩
        · obtain ⟨b, o, ea, hb, hx⟩ := r2 h
          have : ∀ i, ∃ q : Ins, i < ni → w.cell? ⟨b, o + i * 7, none⟩ = some (I q.op) ∧ w.cell? ⟨b, o + i * 7 + 1, none⟩ = some (I q.dst) ∧ w.cell? ⟨b, o + i * 7 + 2, none⟩ = some (I q.a) ∧
              w.cell? ⟨b, o + i * 7 + 3, none⟩ = some (I q.b) ∧ w.cell? ⟨b, o + i * 7 + 4, none⟩ = some (I q.sa) ∧ w.cell? ⟨b, o + i * 7 + 5, none⟩ = some (I q.sb) ∧ w.cell? ⟨b, o + i * 7 + 6, none⟩ = some (I q.im) := fun i => by
            by_cases hi : i < ni
            · obtain ⟨cs', y, m', hl', hc', ht'⟩ := hx i hi
              obtain ⟨x, rfl⟩ := instr_ints ht'
              exact ⟨x, fun _ => ⟨hc' 0 (by omega), hc' 1 (by omega), hc' 2 (by omega), hc' 3 (by omega), hc' 4 (by omega), hc' 5 (by omega), hc' 6 (by omega)⟩⟩
            · exact ⟨⟨0, 0, 0, 0, 0, 0, 0⟩, fun h => absurd h hi⟩
          exact ⟨fun i => Classical.choose (this i), fun _ => ⟨b, o, ea, hb, fun i hi => Classical.choose_spec (this i) hi⟩⟩
      obtain ⟨P, hP⟩ := hP
      obtain ⟨X, hX⟩ := hX
      exact ⟨⟨np, P, nc, C, ni, X, no, O⟩, ⟨AP, cP, AC, cC, AX, cX, AO, cO⟩, rfl, ⟨hP, r1, hX, r3, n0, n1, n2, n3, z1, z2⟩⟩
set_option maxRecDepth 100000 in
theorem open_load {w' : World} {b0 : Nat} {v : Value} {d : DataW H} {p : List MemPlace}
    (hv : Value.okWide Try.prog w' .any b0 44 v) (h : DataW.Trod enc Try.prog w base (fun _ => true) held 44 v d p) :
    ∃ (A : Option Addr) (n c : Nat) (F : Nat → Int) (B : Option Addr) (m e : Nat) (D : Nat → Int), v = .agg #[.slice A n c, .slice B m e] ∧ n ≤ maxLen ∧ m ≤ maxLen ∧ Ri w A n F ∧ Ri w B m D ∧ (A = none → c = 0) := by
  obtain ⟨cs, rfl, _⟩ := okWide_struct Try.underlying44 hv
  obtain ⟨l⟩ := cs
  obtain ⟨fuel, hd⟩ := h
  have hd' : DataW.trod enc Try.prog w base (fun _ => true) held fuel 44 l = some (d, p) := hd
  obtain ⟨xs, m, _, _, hl, hlen, hf⟩ := DataW.trod_struct Try.underlying44 hd'
  have h2 : l.length = 2 := by rw [hl]; kernel_rfl
  match xs, hlen with
  | [y0, y1], _ =>
    match l, h2 with
    | [c0, c1], _ =>
      have k1 : Try.prog.cellsOf 23 = 1 := by kernel_rfl
      have e0 : DataW.trod enc Try.prog w base (fun _ => true) held m 23 (([c0, c1].drop 0).take (Try.prog.cellsOf 23)) = some y0 := hf 0 _ rfl
      have e1 : DataW.trod enc Try.prog w base (fun _ => true) held m 23 (([c0, c1].drop 1).take (Try.prog.cellsOf 23)) = some y1 := hf 1 _ rfl
      rw [k1] at e0 e1
      obtain ⟨A, n, c, F, g0, n0, r0, z0⟩ := ri_sliceP e0
      obtain ⟨B, q, e, D, g1, n1, r1, _⟩ := ri_sliceP e1
      cases g0; cases g1
      exact ⟨A, n, c, F, B, q, e, D, rfl, n0, n1, r0, r1, z0⟩
end
theorem i32w {n : Int} (h : (Lit.int .i32 n).wf = true) : -2147483648 ≤ n ∧ n ≤ 2147483647 := by simp [Lit.wf, IntKind.min, IntKind.max, IntKind.signed, IntKind.bits] at h; omega
theorem i16w {n : Int} (h : (Lit.int .i16 n).wf = true) : -32768 ≤ n ∧ n ≤ 32767 := by simp [Lit.wf, IntKind.min, IntKind.max, IntKind.signed, IntKind.bits] at h; omega
set_option maxRecDepth 100000 in
theorem open_int32s {H : Type} {enc : TypeId × Value → H} {w w' : World} {base b0 : Nat} {held : Bool} {v : Value} {d : DataW H} {p : List MemPlace}
    (hv : Value.okWide Try.prog w' .any b0 60 v) (h : DataW.Trod enc Try.prog w base (fun _ => true) held 60 v d p) :
    ∃ (A : Option Addr) (n c : Nat) (X : Nat → Int), v = .slice A n c ∧ n ≤ maxLen ∧ R32 w A n X ∧ ∀ i, i < n → wdB (X i) = true := by
  obtain ⟨a, L, cap, rfl⟩ := okWide_slice Try.underlying60 hv
  obtain ⟨fuel, h1⟩ := h
  obtain ⟨A, n, c, e, hl, hm, hf⟩ := int_slice (t := 60) Try.underlying60 Try.underlying21 (by kernel_rfl) h1
  have e2 : [Value.slice a L cap] = [Value.slice A n c] := by simpa [Value.cells] using e
  simp only [List.cons.injEq, and_true, Value.slice.injEq] at e2
  obtain ⟨rfl, rfl, rfl⟩ := e2
  by_cases h0 : 1 ≤ L
  · obtain ⟨b, off, f, rfl, hb, hc, hw⟩ := hf h0
    exact ⟨_, L, cap, f, rfl, by omega, fun _ => ⟨b, off, rfl, hb, hc⟩, fun i hi => wdB_iff.2 (i32w (hw i hi))⟩
  · exact ⟨a, L, cap, fun _ => 0, rfl, by omega, fun hn => by omega, fun i hi => by omega⟩
end Go.Proofs.Ytommlhdiefoocaa
