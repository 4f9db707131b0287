/- Diagrams: rows of blocks that are built by append. -/
import Derived.Test.YtgajibdmihdkcaaDoorDhl
import Derived.Test.YtgajibdmihdkcaaDoorDgp
namespace Go.Proofs.YtgajibdmihdkcaaDoor
open Go Go.RowKit Go.ChangeShapes Go.WideShapes

theorem infoBlk : (Tryd.prog.info? 53).map (fun i => (i.zero.map (fun z => z.cells.size), i.size, i.bytes)) = some (some 6, 6, 64) := by kernel_rfl
theorem infoBlk' : ∃ i z, Tryd.prog.info? 53 = some i ∧ i.zero = some z ∧ i.size = 6 ∧ i.bytes = 64 ∧ z.cells.size = 6 := by
  have h := infoBlk
  cases hi : Tryd.prog.info? 53 with
  | none => rw [hi] at h; cases h
  | some i =>
    rw [hi] at h
    simp only [Option.map_some, Option.some.injEq, Prod.mk.injEq] at h
    obtain ⟨h1, h2, h3⟩ := h
    cases hz : i.zero with
    | none => rw [hz] at h1; cases h1
    | some z =>
      rw [hz] at h1
      exact ⟨i, z, rfl, hz, h2, h3, by simpa using h1⟩
/-- The cells of a block; of the first i blocks. -/
def bc1 (D : Dia) (p : Pl) (i : Nat) : List Value := [I (D.B i).k, .slice (p.AA i) (D.B i).n (p.cA i), I (D.B i).vn, I (D.B i).ve, I (D.B i).un, I (D.B i).ue]
def bcs (D : Dia) (p : Pl) : Nat → List Value
  | 0 => []
  | i + 1 => bcs D p i ++ bc1 D p i
theorem bc1_len (D : Dia) (p : Pl) (i : Nat) : (bc1 D p i).length = 6 := rfl
theorem bcs_len (D : Dia) (p : Pl) (i : Nat) : (bcs D p i).length = i * 6 := by
  induction i with
  | zero => rfl
  | succ i ih => show (bcs D p i ++ bc1 D p i).length = _; rw [List.length_append, ih, bc1_len]; omega
theorem bcs_get {D : Dia} {p : Pl} {n i j : Nat} (hi : i < n) (hj : j < 6) : (bcs D p n)[i * 6 + j]? = (bc1 D p i)[j]? := by
  induction n with
  | zero => omega
  | succ n ih =>
    show (bcs D p n ++ bc1 D p n)[i * 6 + j]? = _
    by_cases e : i = n
    · subst e
      rw [List.getElem?_append_right (by rw [bcs_len]; omega), bcs_len]
      congr 1; omega
    · rw [List.getElem?_append_left (by rw [bcs_len]; omega)]; exact ih (by omega)
/-- The slice owns its memory and holds the first i blocks. -/
def OwB (w : World) (base : Nat) (A : Option Addr) (c : Nat) (D : Dia) (p : Pl) (i : Nat) : Prop := w.ownsRow base 53 6 (.slice A i c) i (bcs D p i)
theorem OwB.nil (w : World) (base : Nat) (D : Dia) (p : Pl) : OwB w base none 0 D p 0 := World.ownsRow_nil _ _ _ _
theorem OwB.lt {w : World} {base c i : Nat} {A : Option Addr} {D : Dia} {p : Pl} (h : OwB w base A c D p i) : ∀ k, (Value.slice A i c).ownBlock = some k → base ≤ k ∧ k < w.heap.size := World.ownsRow.lt h
theorem OwB.ext {w w' : World} {base c i : Nat} {A : Option Addr} {D : Dia} {p : Pl} (h : OwB w base A c D p i) (e : Ext w w') : OwB w' base A c D p i :=
  World.ownsRow.kept h (ext_gr e) (by cases (Value.slice A i c).ownBlock <;> simp)
theorem OwB.off {w w' : World} {base c g i : Nat} {A : Option Addr} {D : Dia} {p : Pl} (h : OwB w base A c D p i) (e : w.grownBy w' (some g)) (hg : g < base) : OwB w' base A c D p i := by
  refine World.ownsRow.kept h e ?_
  cases hv : (Value.slice A i c).ownBlock with
  | none => simp
  | some k => right; have := (h.lt k hv).1; intro e; injection e with e; omega
theorem growB_ext {W w w' : World} {base c i : Nat} {A : Option Addr} {D : Dia} {p : Pl} (e : Ext W w) (h : OwB w base A c D p i) (hb : W.heap.size ≤ base) (hg : w.grownBy w' (Value.slice A i c).ownBlock) : Ext W w' :=
  Below.grown e hg e.size (fun k hk => Nat.le_trans hb (h.lt k hk).1)
theorem OwB.at_ {w : World} {base c n : Nat} {A : Option Addr} {D : Dia} {p : Pl} (h : OwB w base A c D p n) (h0 : 0 < n) : ∃ g, A = some ⟨g, 0, none⟩ ∧ g < w.heap.size ∧ ∀ i j, i < n → j < 6 → w.cell? ⟨g, i * 6 + j, none⟩ = (bc1 D p i)[j]? := by
  have h' := h
  obtain ⟨_, ⟨e, hz⟩ | ⟨g, cap, cur, e, _⟩⟩ := h'
  · omega
  · injection e with e1 e2 e3
    subst e1
    refine ⟨g, rfl, (h.lt g rfl).2, fun i j hi hj => ?_⟩
    rw [World.ownsRow.cellAt h (i * 6 + j) (by omega)]; exact bcs_get hi hj
theorem OwB.len0 {w : World} {base c n : Nat} {A : Option Addr} {D : Dia} {p : Pl} (h : OwB w base A c D p n) : A = none → c = 0 := fun hA => by
  obtain ⟨_, ⟨e, _⟩ | ⟨g, cap, cur, e, _⟩⟩ := h
  · injection e
  · injection e with e1 e2 e3; rw [hA] at e1; cases e1
theorem appB {ops : Array Oper} {rest : List Oper} {o : Oper} {a : Act} {w : World} {Q : Exit → Act → World → Prop} (hgd : o.guard = none) (s x : Operand) (ho : o.op = .call { callee := .builtin .append, args := #[s, x], argTypes := #[23, 23] })
    (base : Nat) (A : Option Addr) (c : Nat) (D : Dia) (p : Pl) (n : Nat) (hs : a.eval s = .slice A n c) (hown : OwB w base A c D p n) (ad : Addr) (cx : Nat) (hx : a.eval x = .slice (some ad) 1 cx) (hv : ∀ j u, (bc1 D p n)[j]? = some u → w.cell? (ad.add j) = some u)
    (hn : n ≤ 1099511627) (hbase : base ≤ w.heap.size)
    (h : ∀ g cap w', OwB w' base (some ⟨g, 0, none⟩) cap D p (n + 1) → w.grownBy w' (Value.slice A n c).ownBlock → ((Value.slice A n c).ownBlock = some g ∨ g = w.heap.size) → g < w'.heap.size →
      wpList Tryd.prog ops Q rest (a.put o.dst (.slice (some ⟨g, 0, none⟩) (n + 1) cap)) w') : wpList Tryd.prog ops Q (o :: rest) a w := by
  obtain ⟨i, z, hi, hz, h1, hb, hzs⟩ := infoBlk'
  exact wpList_append_lies w hgd s x _ ho base 53 i z 6 64 Tryd.underlying23 hi hz h1 hb hzs (by omega) _ n _ hs hown ad 1 cx (bc1 D p n) hx (bc1_len _ _ _) hv
    (by intro u hu; simp only [bc1, List.mem_cons, List.not_mem_nil, or_false] at hu; rcases hu with rfl | rfl | rfl | rfl | rfl | rfl <;> rfl) (by omega) (by unfold maxLen; omega) (by omega) hbase w.heap.size rfl h

/-! ### Diagrams as arguments: their slices' capacities -/
theorem ri_slice' {H : Type} {enc : TypeId × Value → H} {w : World} {base : Nat} {held : Bool} {fuel : Nat} {cs : List Value} {x : DataW H × List MemPlace}
    (h : DataW.trod enc Tryd.prog w base (fun _ => true) held fuel 24 cs = some x) (A : Option Addr) (n c : Nat) (e : cs = [.slice A n c]) : n ≤ c ∧ c ≤ maxLen := by
  rcases open_ints Tryd.underlying24 Tryd.underlying3 (by kernel_rfl) h with ⟨rfl, _⟩ | ⟨a, len, cap, zs, rfl, _, hl, hm, hz, _, hcell, hwf⟩
  · injection e with e _; injection e with e1 e2 e3; subst e2; subst e3; exact ⟨Nat.le_refl _, Nat.zero_le _⟩
  · injection e with e _; injection e with e1 e2 e3; subst e2; subst e3; exact ⟨hl, hm⟩
end Go.Proofs.YtgajibdmihdkcaaDoor
