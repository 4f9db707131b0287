/- Arguments that are diagrams. -/
import Derived.Test.YtkocmdpfknoiaaaGreatDoorDgcd
import Derived.Test.YtkocmdpfknoiaaaGreatDoorLift
import Derived.Deep.Slices
namespace Go.Proofs.YtkocmdpfknoiaaaGreatDoor
open Go.ChangeShapes Go.WideShapes Go.ChangeAt Go.RowKit

def in64 (n : Int) : Prop := -9223372036854775808 ≤ n ∧ n ≤ 9223372036854775807
theorem ri_slice {H : Type} {enc : TypeId × Value → H} {w : World} {base : Nat} {held : Bool} {fuel : Nat} {cs : List Value} {x : DataW H × List MemPlace}
    (h : DataW.trod enc Tryz.prog w base (fun _ => true) held fuel 24 cs = some x) :
    ∃ (A : Option Addr) (n c : Nat) (f : Nat → Int), cs = [.slice A n c] ∧ n ≤ maxLen ∧ Ri w A n f ∧ (A = none → c = 0) ∧ ∀ i, i < n → in64 (f i) := by
  rcases open_ints Tryz.underlying24 Tryz.underlying3 (by kernel_rfl) h with ⟨rfl, _⟩ | ⟨a, len, cap, zs, rfl, _, hl, hm, hz, _, hcell, hwf⟩
  · exact ⟨none, 0, 0, fun _ => 0, rfl, Nat.zero_le _, Ri.none_, fun _ => rfl, fun i hi => by omega⟩
  · rw [if_pos rfl] at hz
    refine ⟨some a, len, cap, fun i => zs.getD i 0, rfl, by omega, fun h1 => ?_, fun q => (by cases q), fun i hi => ?_⟩
    · obtain ⟨b, off, rfl, hc'⟩ := ints_at hcell (by omega)
      exact ⟨b, off, rfl, World.block_lt_of_cell? w _ (hc' 0 (by omega)), fun i hi => hc' i (by omega)⟩
    · have : i < zs.length := by omega
      refine in64w (hwf _ ?_)
      show zs.getD i 0 ∈ zs
      rw [List.getD_eq_getElem?_getD, List.getElem?_eq_getElem this]
      exact List.getElem_mem this

section
variable {H : Type} {enc : TypeId × Value → H} {w : World} {base : Nat} {held : Bool}
/-- A slice of structs: where it lies, what its cells hold. -/
theorem rows_slice {t e : TypeId} {k : Nat} {fuel : Nat} {cs : List Value} {x : DataW H × List MemPlace} (ht : Tryz.prog.underlying t = some (.slice e)) (hk : Tryz.prog.cellsOf e = k) (h0 : 0 < k)
    (h : DataW.trod enc Tryz.prog w base (fun _ => true) held fuel t cs = some x) :
    ∃ (A : Option Addr) (n c : Nat), cs = [.slice A n c] ∧ n ≤ maxLen ∧ (A = none → c = 0) ∧ (0 < n → ∃ b o, A = some ⟨b, o, none⟩ ∧ b < w.heap.size ∧
      ∀ i, i < n → ∃ (cs' : List Value) (y : DataW H × List MemPlace) (m : Nat), cs'.length = k ∧ (∀ j, j < k → w.cell? ⟨b, o + i * k + j, none⟩ = cs'[j]?) ∧ DataW.trod enc Tryz.prog w base (fun _ => true) held m e cs' = some y) := by
  rcases Go.Deep.open_slice ht h with ⟨rfl, _⟩ | ⟨a, len, cap, m, n, D, Pl, rfl, hb, hl, hm, hmm, rfl, hx⟩
  · exact ⟨none, 0, 0, rfl, Nat.zero_le _, fun _ => rfl, fun h => by omega⟩
  · rw [if_pos rfl] at hmm
    refine ⟨some a, len, cap, rfl, by omega, fun q => (by cases q), fun h1 => ?_⟩
    rw [hk] at hx
    obtain ⟨b, off, spot⟩ := a
    obtain ⟨cs0, hc0, ht0⟩ := hx 0 (by omega)
    obtain ⟨_, hl0, hat0⟩ := World.cells?_some hc0
    have hcell := hat0 0 h0
    rw [List.getElem?_eq_getElem (by omega)] at hcell
    have hspot : spot = none := by
      have := World.cell?_spot hcell
      simpa [Addr.add] using this
    subst hspot
    refine ⟨b, off, rfl, ?_, fun i hi => ?_⟩
    · rw [Go.WideShapes.add_plain, Go.WideShapes.add_plain] at hcell
      exact World.block_lt_of_cell? w _ hcell
    · obtain ⟨cs', hc', ht'⟩ := hx i (by omega)
      obtain ⟨_, hl', hat'⟩ := World.cells?_some hc'
      refine ⟨cs', _, n, hl', fun j hj => ?_, ht'⟩
      rw [← hat' j hj, Go.WideShapes.add_plain, Go.WideShapes.add_plain]
/-- The four ints or so of a flat struct. -/
theorem two_ints {m : Nat} {cs : List Value} {y : DataW H × List MemPlace} (h : DataW.trod enc Tryz.prog w base (fun _ => true) held m 49 cs = some y) : ∃ a b, cs = [I a, I b] ∧ in64 a ∧ in64 b := by
  have hf := flat_of_trod (P := Tryz.prog) 3 (ks := [some .i64, some .i64]) (by kernel_rfl) h
  obtain ⟨a, l1, rfl, wa, h1⟩ := flat_i hf
  obtain ⟨b, l2, rfl, wb, h2⟩ := flat_i h1
  obtain rfl := flat_nil h2
  exact ⟨a, b, rfl, in64w wa, in64w wb⟩
theorem port_ints {m : Nat} {cs : List Value} {y : DataW H × List MemPlace} (h : DataW.trod enc Tryz.prog w base (fun _ => true) held m 47 cs = some y) : ∃ a b c, cs = [I a, I b, I c] ∧ in64 a ∧ in64 b ∧ in64 c := by
  have hf := flat_of_trod (P := Tryz.prog) 3 (ks := [some .i64, some .i64, some .i64]) (by kernel_rfl) h
  obtain ⟨a, l1, rfl, wa, h1⟩ := flat_i hf
  obtain ⟨b, l2, rfl, wb, h2⟩ := flat_i h1
  obtain ⟨c, l3, rfl, wc, h3⟩ := flat_i h2
  obtain rfl := flat_nil h3
  exact ⟨a, b, c, rfl, in64w wa, in64w wb, in64w wc⟩
set_option maxRecDepth 100000 in
theorem block_cells {m : Nat} {cs : List Value} {y : DataW H × List MemPlace} (h : DataW.trod enc Tryz.prog w base (fun _ => true) held m 51 cs = some y) :
    ∃ (k : Int) (A : Option Addr) (n c : Nat) (f : Nat → Int) (vn ve un ue : Int), cs = [I k, .slice A n c, I vn, I ve, I un, I ue] ∧ n ≤ maxLen ∧ Ri w A n f ∧ (A = none → c = 0) ∧ in64 k ∧ (∀ i, i < n → in64 (f i)) ∧ in64 vn ∧ in64 ve ∧ in64 un ∧ in64 ue := by
  obtain ⟨xs, n0, _, _, hl, hlen, hf⟩ := DataW.trod_struct Tryz.underlying51 h
  have h6 : cs.length = 6 := by rw [hl]; kernel_rfl
  match xs, hlen with
  | [y0, y1, y2, y3], _ =>
    match cs, h6 with
    | [c0, c1, c2, c3, c4, c5], _ =>
      have k0 : Tryz.prog.cellsOf 3 = 1 := by kernel_rfl
      have k1 : Tryz.prog.cellsOf 24 = 1 := by kernel_rfl
      have k2 : Tryz.prog.cellsOf 49 = 2 := by kernel_rfl
      have e0 : DataW.trod enc Tryz.prog w base (fun _ => true) held n0 3 (([c0, c1, c2, c3, c4, c5].drop 0).take (Tryz.prog.cellsOf 3)) = some y0 := hf 0 _ rfl
      have e1 : DataW.trod enc Tryz.prog w base (fun _ => true) held n0 24 (([c0, c1, c2, c3, c4, c5].drop 1).take (Tryz.prog.cellsOf 24)) = some y1 := hf 1 _ rfl
      have e2 : DataW.trod enc Tryz.prog w base (fun _ => true) held n0 49 (([c0, c1, c2, c3, c4, c5].drop 2).take (Tryz.prog.cellsOf 49)) = some y2 := hf 2 _ rfl
      have e3 : DataW.trod enc Tryz.prog w base (fun _ => true) held n0 49 (([c0, c1, c2, c3, c4, c5].drop 4).take (Tryz.prog.cellsOf 49)) = some y3 := hf 3 _ rfl
      rw [k0] at e0
      rw [k1] at e1
      rw [k2] at e2 e3
      obtain ⟨k, g0, _, wk⟩ := DataW.trod_int Tryz.underlying3 e0
      obtain ⟨A, n, c, f, g1, hn, r, ok, hw⟩ := ri_slice e1
      obtain ⟨vn, ve, g2, w2, w3⟩ := two_ints e2
      obtain ⟨un, ue, g3, w4, w5⟩ := two_ints e3
      cases g0; cases g1; cases g2; cases g3
      exact ⟨k, A, n, c, f, vn, ve, un, ue, rfl, hn, r, ok, in64w wk, hw, w2, w3, w4, w5⟩
set_option maxRecDepth 100000 in
theorem open_dia {w' : World} {b0 : Nat} {v : Value} {d : DataW H} {p : List MemPlace}
    (hv : Value.okWide Tryz.prog w' .any b0 26 v) (h : DataW.Trod enc Tryz.prog w base (fun _ => true) held 26 v d p) :
    ∃ (D : Dia) (pl : Pl), v = dgv D pl ∧ Dm w D pl := by
  obtain ⟨cs, rfl, _⟩ := okWide_struct Tryz.underlying26 hv
  obtain ⟨l⟩ := cs
  obtain ⟨fuel, hd⟩ := h
  have hd' : DataW.trod enc Tryz.prog w base (fun _ => true) held fuel 26 l = some (d, p) := hd
  obtain ⟨xs, m, _, _, hl, hlen, hf⟩ := DataW.trod_struct Tryz.underlying26 hd'
  have h3 : l.length = 3 := by rw [hl]; kernel_rfl
  match xs, hlen with
  | [y0, y1, y2], _ =>
    match l, h3 with
    | [c0, c1, c2], _ =>
      have k0 : Tryz.prog.cellsOf 22 = 1 := by kernel_rfl
      have k1 : Tryz.prog.cellsOf 23 = 1 := by kernel_rfl
      have k2 : Tryz.prog.cellsOf 24 = 1 := by kernel_rfl
      have e0 : DataW.trod enc Tryz.prog w base (fun _ => true) held m 22 (([c0, c1, c2].drop 0).take (Tryz.prog.cellsOf 22)) = some y0 := hf 0 _ rfl
      have e1 : DataW.trod enc Tryz.prog w base (fun _ => true) held m 23 (([c0, c1, c2].drop 1).take (Tryz.prog.cellsOf 23)) = some y1 := hf 1 _ rfl
      have e2 : DataW.trod enc Tryz.prog w base (fun _ => true) held m 24 (([c0, c1, c2].drop 2).take (Tryz.prog.cellsOf 24)) = some y2 := hf 2 _ rfl
      rw [k0] at e0
      rw [k1] at e1
      rw [k2] at e2
      obtain ⟨AI, ni, cI, g0, n0, z0, r0⟩ := rows_slice Tryz.underlying22 (k := 3) (by kernel_rfl) (by omega) e0
      obtain ⟨AB, nb, cB, g1, n1, z1, r1⟩ := rows_slice Tryz.underlying23 (k := 6) (by kernel_rfl) (by omega) e1
      obtain ⟨AO, no, cO, O, g2, n2, r2, z2, _⟩ := ri_slice e2
      cases g0; cases g1; cases g2
      have hP : ∃ P : Nat → Prt, 0 < ni → ∃ b o, AI = some ⟨b, o, none⟩ ∧ b < w.heap.size ∧ ∀ i, i < ni → w.cell? ⟨b, o + i * 3, none⟩ = some (I (P i).lo) ∧ w.cell? ⟨b, o + i * 3 + 1, none⟩ = some (I (P i).hi) ∧ w.cell? ⟨b, o + i * 3 + 2, none⟩ = some (I (P i).fr) := by
        rcases Nat.eq_zero_or_pos ni with h | h
        · exact ⟨fun _ => ⟨0, 0, 0⟩, fun h' => by omega⟩
        · obtain ⟨b, o, ea, hb, hx⟩ := r0 h
          have : ∀ i, ∃ q : Prt, i < ni → w.cell? ⟨b, o + i * 3, none⟩ = some (I q.lo) ∧ w.cell? ⟨b, o + i * 3 + 1, none⟩ = some (I q.hi) ∧ w.cell? ⟨b, o + i * 3 + 2, none⟩ = some (I q.fr) := fun i => by
            by_cases hi : i < ni
            · obtain ⟨cs', y, m', hl', hc', ht'⟩ := hx i hi
              obtain ⟨x0, x1, x2, rfl, _, _, _⟩ := port_ints ht'
              exact ⟨⟨x0, x1, x2⟩, fun _ => ⟨hc' 0 (by omega), hc' 1 (by omega), hc' 2 (by omega)⟩⟩
            · exact ⟨⟨0, 0, 0⟩, fun h => absurd h hi⟩
          exact ⟨fun i => Classical.choose (this i), fun _ => ⟨b, o, ea, hb, fun i hi => Classical.choose_spec (this i) hi⟩⟩
      have hB : ∃ (B : Nat → Blk) (AA : Nat → Option Addr) (cA : Nat → Nat), (0 < nb → ∃ b o, AB = some ⟨b, o, none⟩ ∧ b < w.heap.size ∧ ∀ i, i < nb → w.cell? ⟨b, o + i * 6, none⟩ = some (I (B i).k) ∧ w.cell? ⟨b, o + i * 6 + 1, none⟩ = some (.slice (AA i) (B i).n (cA i)) ∧
          w.cell? ⟨b, o + i * 6 + 2, none⟩ = some (I (B i).vn) ∧ w.cell? ⟨b, o + i * 6 + 3, none⟩ = some (I (B i).ve) ∧ w.cell? ⟨b, o + i * 6 + 4, none⟩ = some (I (B i).un) ∧ w.cell? ⟨b, o + i * 6 + 5, none⟩ = some (I (B i).ue)) ∧
          ∀ i, i < nb → Ri w (AA i) (B i).n (B i).a ∧ (B i).n ≤ maxLen ∧ (AA i = none → cA i = 0) := by
        rcases Nat.eq_zero_or_pos nb with h | h
        · exact ⟨fun _ => ⟨0, 0, fun _ => 0, 0, 0, 0, 0⟩, fun _ => none, fun _ => 0, fun h' => by omega, fun i hi => by omega⟩
        · obtain ⟨b, o, ea, hb, hx⟩ := r1 h
          have : ∀ i, ∃ q : Blk × Option Addr × Nat, i < nb → (w.cell? ⟨b, o + i * 6, none⟩ = some (I q.1.k) ∧ w.cell? ⟨b, o + i * 6 + 1, none⟩ = some (.slice q.2.1 q.1.n q.2.2) ∧
              w.cell? ⟨b, o + i * 6 + 2, none⟩ = some (I q.1.vn) ∧ w.cell? ⟨b, o + i * 6 + 3, none⟩ = some (I q.1.ve) ∧ w.cell? ⟨b, o + i * 6 + 4, none⟩ = some (I q.1.un) ∧ w.cell? ⟨b, o + i * 6 + 5, none⟩ = some (I q.1.ue)) ∧
              Ri w q.2.1 q.1.n q.1.a ∧ q.1.n ≤ maxLen ∧ (q.2.1 = none → q.2.2 = 0) := fun i => by
            by_cases hi : i < nb
            · obtain ⟨cs', y, m', hl', hc', ht'⟩ := hx i hi
              obtain ⟨k, A, n, c, f, vn, ve, un, ue, rfl, hn, r, ok, _⟩ := block_cells ht'
              exact ⟨(⟨k, n, f, vn, ve, un, ue⟩, A, c), fun _ => ⟨⟨hc' 0 (by omega), hc' 1 (by omega), hc' 2 (by omega), hc' 3 (by omega), hc' 4 (by omega), hc' 5 (by omega)⟩, r, hn, ok⟩⟩
            · exact ⟨(⟨0, 0, fun _ => 0, 0, 0, 0, 0⟩, none, 0), fun h => absurd h hi⟩
          exact ⟨fun i => (Classical.choose (this i)).1, fun i => (Classical.choose (this i)).2.1, fun i => (Classical.choose (this i)).2.2, fun _ => ⟨b, o, ea, hb, fun i hi => (Classical.choose_spec (this i) hi).1⟩, fun i hi => (Classical.choose_spec (this i) hi).2⟩
      obtain ⟨P, hP⟩ := hP
      obtain ⟨B, AA, cA, hB, hA⟩ := hB
      exact ⟨⟨ni, P, nb, B, no, O⟩, ⟨AI, cI, AB, cB, AO, cO, AA, cA⟩, rfl, ⟨hP, hB, fun i hi => ⟨(hA i hi).1, (hA i hi).2.1⟩, r2, n0, n1, n2, fun i hi => (hA i hi).2.2, z2, z0⟩⟩
end
end Go.Proofs.YtkocmdpfknoiaaaGreatDoor
