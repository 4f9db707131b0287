/- Diagrams: rows of blocks that are built by append. -/
import Derived.Test.YtcdkkohklhmpgaaGreatDoorDhej
import Derived.Test.YtcdkkohklhmpgaaGreatDoorDgp
namespace Go.Proofs.YtcdkkohklhmpgaaGreatDoor

/-! ### Dhm -/
section
open Go Go.RowKit Go.ChangeShapes Go.WideShapes

theorem infoBlk : (Tryz.prog.info? 100).map (fun i => (i.zero.map (fun z => z.cells.size), i.size, i.bytes)) = some (some 6, 6, 64) := by kernel_rfl
theorem infoBlk' : ∃ i z, Tryz.prog.info? 100 = some i ∧ i.zero = some z ∧ i.size = 6 ∧ i.bytes = 64 ∧ z.cells.size = 6 := by
  have h := infoBlk
  cases hi : Tryz.prog.info? 100 with
  | none => rw [hi] at h; cases h
  | some i =>
    rw [hi] at h
    simp only [Option.map_some, Option.some.injEq, Prod.mk.injEq] at h
    obtain ⟨h1, h2, h3⟩ := h
    cases hz : i.zero with
    | none => rw [hz] at h1; cases h1
    | some z =>
      rw [hz] at h1
      exact ⟨i, z, rfl, hz, h2, h3, by simpa using h1⟩
/-- The cells of a block; of the first i blocks. -/
def bc1 (D : Dia) (p : Pl) (i : Nat) : List Value := [I (D.B i).k, .slice (p.AA i) (D.B i).n (p.cA i), I (D.B i).vn, I (D.B i).ve, I (D.B i).un, I (D.B i).ue]
def bcs (D : Dia) (p : Pl) : Nat → List Value
  | 0 => []
  | i + 1 => bcs D p i ++ bc1 D p i
theorem bc1_len (D : Dia) (p : Pl) (i : Nat) : (bc1 D p i).length = 6 := rfl
theorem bcs_len (D : Dia) (p : Pl) (i : Nat) : (bcs D p i).length = i * 6 := by
  induction i with
  | zero => rfl
  | succ i ih => show (bcs D p i ++ bc1 D p i).length = _; rw [List.length_append, ih, bc1_len]; omega
theorem bcs_get {D : Dia} {p : Pl} {n i j : Nat} (hi : i < n) (hj : j < 6) : (bcs D p n)[i * 6 + j]? = (bc1 D p i)[j]? := by
  induction n with
  | zero => omega
  | succ n ih =>
    show (bcs D p n ++ bc1 D p n)[i * 6 + j]? = _
    by_cases e : i = n
    · subst e
      rw [List.getElem?_append_right (by rw [bcs_len]; omega), bcs_len]
      congr 1; omega
    · rw [List.getElem?_append_left (by rw [bcs_len]; omega)]; exact ih (by omega)
/-- The slice owns its memory and holds the first i blocks. -/
def OwB (w : World) (base : Nat) (A : Option Addr) (c : Nat) (D : Dia) (p : Pl) (i : Nat) : Prop := w.ownsRow base 100 6 (.slice A i c) i (bcs D p i)
theorem OwB.nil (w : World) (base : Nat) (D : Dia) (p : Pl) : OwB w base none 0 D p 0 := World.ownsRow_nil _ _ _ _
theorem OwB.lt {w : World} {base c i : Nat} {A : Option Addr} {D : Dia} {p : Pl} (h : OwB w base A c D p i) : ∀ k, (Value.slice A i c).ownBlock = some k → base ≤ k ∧ k < w.heap.size := World.ownsRow.lt h
theorem OwB.ext {w w' : World} {base c i : Nat} {A : Option Addr} {D : Dia} {p : Pl} (h : OwB w base A c D p i) (e : Ext w w') : OwB w' base A c D p i :=
  World.ownsRow.kept h (ext_gr e) (by cases (Value.slice A i c).ownBlock <;> simp)
theorem OwB.off {w w' : World} {base c g i : Nat} {A : Option Addr} {D : Dia} {p : Pl} (h : OwB w base A c D p i) (e : w.grownBy w' (some g)) (hg : g < base) : OwB w' base A c D p i := by
  refine World.ownsRow.kept h e ?_
  cases hv : (Value.slice A i c).ownBlock with
  | none => simp
  | some k => right; have := (h.lt k hv).1; intro e; injection e with e; omega
theorem growB_ext {W w w' : World} {base c i : Nat} {A : Option Addr} {D : Dia} {p : Pl} (e : Ext W w) (h : OwB w base A c D p i) (hb : W.heap.size ≤ base) (hg : w.grownBy w' (Value.slice A i c).ownBlock) : Ext W w' :=
  Below.grown e hg e.size (fun k hk => Nat.le_trans hb (h.lt k hk).1)
theorem OwB.at_ {w : World} {base c n : Nat} {A : Option Addr} {D : Dia} {p : Pl} (h : OwB w base A c D p n) (h0 : 0 < n) : ∃ g, A = some ⟨g, 0, none⟩ ∧ g < w.heap.size ∧ ∀ i j, i < n → j < 6 → w.cell? ⟨g, i * 6 + j, none⟩ = (bc1 D p i)[j]? := by
  have h' := h
  obtain ⟨_, ⟨e, hz⟩ | ⟨g, cap, cur, e, _⟩⟩ := h'
  · omega
  · injection e with e1 e2 e3
    subst e1
    refine ⟨g, rfl, (h.lt g rfl).2, fun i j hi hj => ?_⟩
    rw [World.ownsRow.cellAt h (i * 6 + j) (by omega)]; exact bcs_get hi hj
theorem OwB.len0 {w : World} {base c n : Nat} {A : Option Addr} {D : Dia} {p : Pl} (h : OwB w base A c D p n) : A = none → c = 0 := fun hA => by
  obtain ⟨_, ⟨e, _⟩ | ⟨g, cap, cur, e, _⟩⟩ := h
  · injection e
  · injection e with e1 e2 e3; rw [hA] at e1; cases e1
theorem appB {ops : Array Oper} {rest : List Oper} {o : Oper} {a : Act} {w : World} {Q : Exit → Act → World → Prop} (hgd : o.guard = none) (s x : Operand) (ho : o.op = .call { callee := .builtin .append, args := #[s, x], argTypes := #[45, 45] })
    (base : Nat) (A : Option Addr) (c : Nat) (D : Dia) (p : Pl) (n : Nat) (hs : a.eval s = .slice A n c) (hown : OwB w base A c D p n) (ad : Addr) (cx : Nat) (hx : a.eval x = .slice (some ad) 1 cx) (hv : ∀ j u, (bc1 D p n)[j]? = some u → w.cell? (ad.add j) = some u)
    (hn : n ≤ 1099511627) (hbase : base ≤ w.heap.size)
    (h : ∀ g cap w', OwB w' base (some ⟨g, 0, none⟩) cap D p (n + 1) → w.grownBy w' (Value.slice A n c).ownBlock → ((Value.slice A n c).ownBlock = some g ∨ g = w.heap.size) → g < w'.heap.size →
      wpList Tryz.prog ops Q rest (a.put o.dst (.slice (some ⟨g, 0, none⟩) (n + 1) cap)) w') : wpList Tryz.prog ops Q (o :: rest) a w := by
  obtain ⟨i, z, hi, hz, h1, hb, hzs⟩ := infoBlk'
  exact wpList_append_lies w hgd s x _ ho base 100 i z 6 64 Tryz.underlying45 hi hz h1 hb hzs (by omega) _ n _ hs hown ad 1 cx (bc1 D p n) hx (bc1_len _ _ _) hv
    (by intro u hu; simp only [bc1, List.mem_cons, List.not_mem_nil, or_false] at hu; rcases hu with rfl | rfl | rfl | rfl | rfl | rfl <;> rfl) (by omega) (by unfold maxLen; omega) (by omega) hbase w.heap.size rfl h

/-! ### Diagrams as arguments: their slices' capacities -/
theorem ri_slice' {H : Type} {enc : TypeId × Value → H} {w : World} {base : Nat} {held : Bool} {fuel : Nat} {cs : List Value} {x : DataW H × List MemPlace}
    (h : DataW.trod enc Tryz.prog w base (fun _ => true) held fuel 46 cs = some x) (A : Option Addr) (n c : Nat) (e : cs = [.slice A n c]) : n ≤ c ∧ c ≤ maxLen := by
  rcases open_ints Tryz.underlying46 Tryz.underlying3 (by kernel_rfl) h with ⟨rfl, _⟩ | ⟨a, len, cap, zs, rfl, _, hl, hm, hz, _, hcell, hwf⟩
  · injection e with e _; injection e with e1 e2 e3; subst e2; subst e3; exact ⟨Nat.le_refl _, Nat.zero_le _⟩
  · injection e with e _; injection e with e1 e2 e3; subst e2; subst e3; exact ⟨hl, hm⟩
end

/-! ### Dhn -/
section
open Go.ChangeShapes Go.WideShapes Go.ChangeAt Go.RowKit

section
variable {H : Type} {enc : TypeId × Value → H} {w : World} {base : Nat} {held : Bool}
theorem block_cap {m : Nat} {cs : List Value} {y : DataW H × List MemPlace} (h : DataW.trod enc Tryz.prog w base (fun _ => true) held m 100 cs = some y) (k : Int) (A : Option Addr) (n c : Nat) (vn ve un ue : Int) (e : cs = [I k, .slice A n c, I vn, I ve, I un, I ue]) : n ≤ c ∧ c ≤ maxLen := by
  obtain ⟨xs, n0, _, _, hl, hlen, hf⟩ := DataW.trod_struct Tryz.underlying100 h
  match xs, hlen with
  | [y0, y1, y2, y3], _ =>
    subst e
    have k1 : Tryz.prog.cellsOf 46 = 1 := by kernel_rfl
    have e1 : DataW.trod enc Tryz.prog w base (fun _ => true) held n0 46 (([I k, .slice A n c, I vn, I ve, I un, I ue].drop 1).take (Tryz.prog.cellsOf 46)) = some y1 := hf 1 _ rfl
    rw [k1] at e1
    exact ri_slice' e1 A n c rfl
/-- The argument lists of D's blocks are no longer than their capacities. -/
def CapD (D : Dia) (p : Pl) : Prop := ∀ i, i < D.nb → (D.B i).n ≤ p.cA i ∧ p.cA i ≤ maxLen
set_option maxRecDepth 100000 in
theorem dia_cap {w' : World} {b0 : Nat} {v : Value} {d : DataW H} {p : List MemPlace}
    (hv : Value.okWide Tryz.prog w' .any b0 48 v) (h : DataW.Trod enc Tryz.prog w base (fun _ => true) held 48 v d p) (D : Dia) (pl : Pl) (e : v = dgv D pl) (dm : Dm w D pl) : CapD D pl := by
  obtain ⟨cs, rfl, _⟩ := okWide_struct Tryz.underlying48 hv
  obtain ⟨l⟩ := cs
  obtain ⟨fuel, hd⟩ := h
  have hd' : DataW.trod enc Tryz.prog w base (fun _ => true) held fuel 48 l = some (d, p) := hd
  obtain ⟨xs, m, _, _, hl, hlen, hf⟩ := DataW.trod_struct Tryz.underlying48 hd'
  have hle : l = [.slice pl.AI D.ni pl.cI, .slice pl.AB D.nb pl.cB, .slice pl.AO D.no pl.cO] := by
    have e' : Value.agg ⟨l⟩ = Value.agg ⟨[.slice pl.AI D.ni pl.cI, .slice pl.AB D.nb pl.cB, .slice pl.AO D.no pl.cO]⟩ := e
    injection e' with e'
    injection e'
  match xs, hlen with
  | [y0, y1, y2], _ =>
    subst hle
    have k1 : Tryz.prog.cellsOf 45 = 1 := by kernel_rfl
    have e1 : DataW.trod enc Tryz.prog w base (fun _ => true) held m 45 (([Value.slice pl.AI D.ni pl.cI, .slice pl.AB D.nb pl.cB, .slice pl.AO D.no pl.cO].drop 1).take (Tryz.prog.cellsOf 45)) = some y1 := hf 1 _ rfl
    rw [k1] at e1
    obtain ⟨AB, nb, cB, g1, n1, z1, r1⟩ := rows_slice Tryz.underlying45 (k := 6) (by kernel_rfl) (by omega) e1
    have g1' : Value.slice pl.AB D.nb pl.cB = Value.slice AB nb cB := by
      have : [Value.slice pl.AB D.nb pl.cB] = [Value.slice AB nb cB] := g1
      injection this
    injection g1' with q1 q2 q3
    subst q1; subst q2; subst q3
    intro i hi
    obtain ⟨b, o, ea, hb, hx⟩ := r1 (by omega)
    obtain ⟨b', o', ea', hb', hx'⟩ := dm.blocks (by omega)
    rw [ea] at ea'
    injection ea' with ea'
    injection ea' with q4 q5 _
    subst q4; subst q5
    obtain ⟨cs', y, m', hl', hc', ht'⟩ := hx i hi
    obtain ⟨k, A, n, c, f, vn, ve, un, ue, rfl, hn, r, ok, _⟩ := block_cells ht'
    have h1 := hc' 1 (by omega)
    rw [(hx' i hi).2.1] at h1
    have h2 : Value.slice (pl.AA i) (D.B i).n (pl.cA i) = Value.slice A n c := by
      have : some (Value.slice (pl.AA i) (D.B i).n (pl.cA i)) = some (Value.slice A n c) := h1
      injection this
    injection h2 with q6 q7 q8
    have := block_cap ht' k A n c vn ve un ue rfl
    rw [q7, q8]; exact this
end
end

/-! ### Dhp -/
section
open Go Go.RowKit

theorem infoPort : (Tryz.prog.info? 55).map (fun i => (i.zero.map (fun z => z.cells.size), i.size, i.bytes)) = some (some 3, 3, 24) := by kernel_rfl
theorem infoPort' : ∃ i z, Tryz.prog.info? 55 = some i ∧ i.zero = some z ∧ i.size = 3 ∧ i.bytes = 24 ∧ z.cells.size = 3 := by
  have h := infoPort
  cases hi : Tryz.prog.info? 55 with
  | none => rw [hi] at h; cases h
  | some i =>
    rw [hi] at h
    simp only [Option.map_some, Option.some.injEq, Prod.mk.injEq] at h
    obtain ⟨h1, h2, h3⟩ := h
    cases hz : i.zero with
    | none => rw [hz] at h1; cases h1
    | some z =>
      rw [hz] at h1
      exact ⟨i, z, rfl, hz, h2, h3, by simpa using h1⟩
def pc1 (D : Dia) (i : Nat) : List Value := [I (D.P i).lo, I (D.P i).hi, I (D.P i).fr]
def pcs (D : Dia) : Nat → List Value
  | 0 => []
  | i + 1 => pcs D i ++ pc1 D i
theorem pc1_len (D : Dia) (i : Nat) : (pc1 D i).length = 3 := rfl
theorem pcs_len (D : Dia) (i : Nat) : (pcs D i).length = i * 3 := by
  induction i with
  | zero => rfl
  | succ i ih => show (pcs D i ++ pc1 D i).length = _; rw [List.length_append, ih, pc1_len]; omega
theorem pcs_get {D : Dia} {n i j : Nat} (hi : i < n) (hj : j < 3) : (pcs D n)[i * 3 + j]? = (pc1 D i)[j]? := by
  induction n with
  | zero => omega
  | succ n ih =>
    show (pcs D n ++ pc1 D n)[i * 3 + j]? = _
    by_cases e : i = n
    · subst e
      rw [List.getElem?_append_right (by rw [pcs_len]; omega), pcs_len]
      congr 1; omega
    · rw [List.getElem?_append_left (by rw [pcs_len]; omega)]; exact ih (by omega)
theorem pcs_one (D : Dia) (n : Nat) : ∀ u ∈ pcs D n, u.oneCell' = true := by
  induction n with
  | zero => intro u hu; cases hu
  | succ n ih =>
    intro u hu
    rcases List.mem_append.1 hu with h | h
    · exact ih u h
    · simp only [pc1, List.mem_cons, List.not_mem_nil, or_false] at h; rcases h with rfl | rfl | rfl <;> rfl
def PoA (w : World) (A : Option Addr) (D : Dia) : Prop := 0 < D.ni → ∃ b o, A = some ⟨b, o, none⟩ ∧ b < w.heap.size ∧ ∀ i, i < D.ni → w.cell? ⟨b, o + i * 3, none⟩ = some (I (D.P i).lo) ∧ w.cell? ⟨b, o + i * 3 + 1, none⟩ = some (I (D.P i).hi) ∧ w.cell? ⟨b, o + i * 3 + 2, none⟩ = some (I (D.P i).fr)
theorem PoA.ext {w w' : World} {A : Option Addr} {D : Dia} (h : PoA w A D) (e : Ext w w') : PoA w' A D := fun hn => by
  obtain ⟨b, o, h1, hb, hc⟩ := h hn
  exact ⟨b, o, h1, Nat.lt_of_lt_of_le hb e.size, fun i hi => by
    obtain ⟨c0, c1, c2⟩ := hc i hi
    exact ⟨(e.old.1 _ _ hb).trans c0, (e.old.1 _ _ hb).trans c1, (e.old.1 _ _ hb).trans c2⟩⟩
/-- The slice owns its memory and holds the first n ports. -/
def OwP (w : World) (base : Nat) (A : Option Addr) (c : Nat) (D : Dia) (n : Nat) : Prop := w.ownsRow base 55 3 (.slice A n c) n (pcs D n)
theorem OwP.po {w : World} {base c : Nat} {A : Option Addr} {D : Dia} (h : OwP w base A c D D.ni) : PoA w A D := fun h0 => by
  have h' := h
  obtain ⟨_, ⟨e, hz⟩ | ⟨g, cap, cur, e, _⟩⟩ := h'
  · omega
  · injection e with e1 e2 e3
    subst e1
    refine ⟨g, 0, rfl, (World.ownsRow.lt h g rfl).2, fun i hi => ?_⟩
    rw [Nat.zero_add]
    have hc : ∀ j, j < 3 → w.cell? ⟨g, i * 3 + j, none⟩ = (pc1 D i)[j]? := fun j hj => by
      rw [World.ownsRow.cellAt h (i * 3 + j) (by omega)]; exact pcs_get hi hj
    exact ⟨hc 0 (by omega), hc 1 (by omega), hc 2 (by omega)⟩
theorem OwP.blk {w : World} {base c n : Nat} {A : Option Addr} {D : Dia} (h : OwP w base A c D n) : ∀ b o, A = some ⟨b, o, none⟩ → base ≤ b ∧ b < w.heap.size := fun b o hA => by
  have h' := h
  obtain ⟨_, ⟨e, _⟩ | ⟨g, cap, cur, e, _⟩⟩ := h'
  · injection e with e1; rw [hA] at e1; cases e1
  · injection e with e1 e2 e3
    rw [hA] at e1
    injection e1 with e1
    injection e1 with e1 e4
    subst e1; subst e4; subst hA
    exact World.ownsRow.lt h b rfl
theorem OwP.len0 {w : World} {base c n : Nat} {A : Option Addr} {D : Dia} (h : OwP w base A c D n) : A = none → c = 0 := fun hA => by
  obtain ⟨_, ⟨e, _⟩ | ⟨g, cap, cur, e, _⟩⟩ := h
  · injection e
  · injection e with e1 e2 e3; rw [hA] at e1; cases e1
theorem appP {ops : Array Oper} {rest : List Oper} {o : Oper} {a : Act} {w : World} {Q : Exit → Act → World → Prop} (hgd : o.guard = none) (s x : Operand) (ho : o.op = .call { callee := .builtin .append, args := #[s, x], argTypes := #[44, 44] })
    (base : Nat) (A : Option Addr) (c : Nat) (D : Dia) (hs : a.eval s = .slice A 0 c) (hown : OwP w base A c D 0) (A' : Option Addr) (c' : Nat) (hx : a.eval x = .slice A' D.ni c') (r : PoA w A' D) (h0 : A' = none → c' = 0)
    (hn : D.ni ≤ 1099511627) (hbase : base ≤ w.heap.size)
    (h : ∀ B e w', OwP w' base B e D D.ni → w.grownBy w' (Value.slice A 0 c).ownBlock → wpList Tryz.prog ops Q rest (a.put o.dst (.slice B D.ni e)) w') : wpList Tryz.prog ops Q (o :: rest) a w := by
  obtain ⟨i, z, hi, hz, h1, hb, hzs⟩ := infoPort'
  have form : ∀ (v' : Value) (w' : World), w'.ownsRow base 55 3 v' D.ni (pcs D D.ni) → ∃ B e, v' = .slice B D.ni e := fun v' w' hv => by
    obtain ⟨_, ⟨rfl, e0⟩ | ⟨g, cap, cur, rfl, _⟩⟩ := hv
    · exact ⟨none, 0, by rw [e0]⟩
    · exact ⟨_, _, rfl⟩
  cases A' with
  | none =>
    have hm : D.ni = 0 := by
      rcases Nat.eq_zero_or_pos D.ni with h | h
      · exact h
      · obtain ⟨b, o, e, _⟩ := r h; cases e
    rw [h0 rfl, hm] at hx
    refine wpList_append_own_none hgd s x _ ho base 55 i 3 Tryz.underlying44 hi _ 0 [] hs hown hx ?_
    have := h A c w (by rw [hm]; exact hown) ⟨rfl, rfl, rfl, Nat.le_refl _, fun _ _ _ => rfl⟩
    rw [hm] at this
    exact this
  | some ad =>
    have hnews : ∀ j u, (pcs D D.ni)[j]? = some u → w.cell? (ad.add j) = some u := fun j u hj => by
      have hjm : j < D.ni * 3 := by
        rcases Nat.lt_or_ge j (D.ni * 3) with h | h
        · exact h
        · rw [List.getElem?_eq_none (by rw [pcs_len]; exact h)] at hj; cases hj
      obtain ⟨b, o, e, hb, hc⟩ := r (by omega)
      obtain rfl := Option.some.inj e
      have hadd : (⟨b, o, none⟩ : Addr).add j = ⟨b, o + j, none⟩ := by unfold Addr.add; split <;> simp_all
      rw [hadd]
      obtain ⟨q, r, hq, hr, rfl⟩ : ∃ q r, q < D.ni ∧ r < 3 ∧ j = q * 3 + r := ⟨j / 3, j % 3, by omega, by omega, by omega⟩
      rw [pcs_get hq hr] at hj
      obtain ⟨e0, e1, e2⟩ := hc q hq
      match r, hr, hj with
      | 0, _, hj => simp [pc1] at hj; subst hj; exact e0
      | 1, _, hj => simp [pc1] at hj; subst hj; rw [← Nat.add_assoc]; exact e1
      | 2, _, hj => simp [pc1] at hj; subst hj; rw [← Nat.add_assoc]; exact e2
    refine wpList_plain hgd fun _ hK => ?_
    obtain ⟨v', w', hr, h2, h3, _, h5⟩ := run_append_own_at (P := Tryz.prog) w base 44 o.type 55 i _ 3 24 Tryz.underlying44 hi hz h1 hb hzs (by omega) _ 0 _ hown ad D.ni c' (pcs D D.ni) (by rw [pcs_len]) hnews
      (pcs_one D D.ni) (by unfold maxLen; omega) (by omega) hbase
    rw [Nat.zero_add, show pcs D 0 ++ pcs D D.ni = pcs D D.ni from rfl] at h2
    obtain ⟨B, e, rfl⟩ := form v' w' h2
    unfold Oper.wp execOp
    simp only [ho, resolve, invoke, builtin, Sem.run_bind, Sem.run_pure, Result.andThen_ok, List.map_toArray, List.map_cons, List.map_nil, hs, hx, hr]
    exact hK _ _ (h B e w' h2 h3)
def PcR (D : Dia) (w : World) (e : Ending) (w' : World) : Prop := ∃ A c, e = .returned (.slice A D.ni c) ∧ PoA w' A D ∧ (A = none → c = 0) ∧ (∀ b o, A = some ⟨b, o, none⟩ → w.heap.size ≤ b ∧ b < w'.heap.size) ∧ Ext w w'
set_option maxRecDepth 100000 in
set_option maxHeartbeats 1000000 in
theorem cloneP_any {w : World} {A : Option Addr} {c : Nat} {D : Dia} (r : PoA w A D) (h0 : A = none → c = 0) (hn : D.ni ≤ 1000) :
    Calls Tryz.prog 112 #[.slice A D.ni c] w (PcR D w) := by
  have hnil : ∀ (w : World) (a : Option Addr) (n c n' c' : Nat), (binOp .eql 44 (.slice a n c) (.slice none n' c')).run Tryz.prog w = .ok (.bool a.isNone) w := fun w a n c n' c' => Lib.run_eql_slice_nil w _ _ a n c n' c' Tryz.underlying44
  cases A with
  | none =>
    have h0 : D.ni = 0 := by
      rcases Nat.eq_zero_or_pos D.ni with h | h
      · exact h
      · obtain ⟨b, o, e, _⟩ := r h; cases e
    have HN := Lib.hid h0
    have R := Lib.hid r; clear r h0
    go_enter Tryz.func112, Tryz.ntmps112
    go_wp2_with fail
    go_ret
    exact ⟨none, 0, by rw [HN.out]; rfl, R.out, fun _ => rfl, fun b o e => by (cases e), Ext.refl _⟩
  | some ad =>
    have R := Lib.hid (r.ext (Ext.alloc w (.cells #[] 55))); clear r
    have HO : Hid (OwP (w.alloc (.cells #[] 55)) w.heap.size (some ⟨w.heap.size, 0, none⟩) 0 D 0) := World.ownsRow_made w #[] 0 (Nat.le_refl _) (Nat.zero_le _) rfl
    have H0 := Lib.hid h0; clear h0
    go_enter Tryz.func112, Tryz.ntmps112
    go_wp2_with (at_builtin; refine appP rfl _ _ rfl w.heap.size (some ⟨w.heap.size, 0, none⟩) 0 D rfl HO.out _ c rfl R.out H0.out (by omega) (by simp) ?_; intro B e w1 hown hgrow; have O1 := Lib.hid hown; have G1 := Lib.hid hgrow; clear hown hgrow)
    go_ret
    exact ⟨B, e, rfl, O1.out.po, O1.out.len0, O1.out.blk, Below.grown (Ext.alloc w _) G1.out (by simp) (fun k hk => by simp [Value.ownBlock] at hk; omega)⟩

/-! ### Places in a sorted list -/
theorem countP_mkL {nb : Nat} {P : Nat → Bool} {x : Nat} (hx : x ≤ nb) : ((mkL nb P).map (fun (i : Nat) => (i : Int))).countP (fun y => decide (y < (x : Int))) = cnt x P := by
  induction nb with
  | zero => obtain rfl : x = 0 := by omega
            rfl
  | succ n ih =>
    show ((mkL n P ++ if P n = true then [n] else []).map _).countP _ = _
    rw [List.map_append, List.countP_append]
    by_cases e : x = n + 1
    · subst e
      have hall : ((mkL n P).map (fun (i : Nat) => (i : Int))).countP (fun y => decide (y < ((n + 1 : Nat) : Int))) = (mkL n P).length := by
        rw [List.countP_eq_length.2, List.length_map]
        intro y hy
        obtain ⟨k, hk, rfl⟩ := List.mem_map.1 hy
        have := (mem_mkL.1 hk).1
        rw [decide_eq_true_iff]; omega
      rw [hall, mkL_len]
      show _ = cnt n P + if P n = true then 1 else 0
      split
      · simp; omega
      · simp
    · rw [ih (by omega)]
      split
      · simp; omega
      · simp
theorem mkL_pair (nb : Nat) (P : Nat → Bool) : ((mkL nb P).map (fun (i : Nat) => (i : Int))).Pairwise (· ≤ ·) := by
  rw [List.pairwise_map]
  exact (mkL_sorted nb P).imp fun h => by omega
theorem bs_any {w : World} {A : Option Addr} {c nb : Nat} {P : Nat → Bool} (r : Rl w A c (mkL nb P)) (hn : nb ≤ 1000) (x : Nat) (hx : x ≤ nb) :
    Calls Tryz.prog 185 #[.slice A (mkL nb P).length c, I x] w fun e w' => (∃ b, e = .returned (.tuple #[I (cnt x P : Nat), .bool b])) ∧ Ext w w' := by
  have hlen := mkL_len nb P
  have hc := cnt_le nb P
  rcases Nat.eq_zero_or_pos (mkL nb P).length with h | h
  · have h0 : cnt x P = 0 := by
      rw [← countP_mkL hx, List.eq_nil_of_length_eq_zero h]; rfl
    rw [h, h0]
    exact (Tryz.slices_BinarySearch_int_empty A c x w).mono fun e w' h => ⟨⟨_, h.1⟩, by rw [h.2]; exact Ext.refl _⟩
  · obtain ⟨b, o, rfl, hb, hcell⟩ := r.1 h
    have := Tryz.slices_BinarySearch_int b o (mkL nb P).length c ((mkL nb P).map (fun (i : Nat) => (i : Int))) x w (by simp) (by omega) (fun j hj => by
      rw [List.length_map] at hj
      rw [hcell j hj]
      simp [List.getD_eq_getElem?_getD, List.getElem?_eq_getElem hj]) (by rw [List.take_of_length_le (by simp)]; exact mkL_pair nb P)
    refine this.mono fun e w' h => ?_
    rw [List.take_of_length_le (by simp)] at h
    obtain ⟨h1, q, rfl⟩ := h
    rw [countP_mkL hx] at h1
    exact ⟨⟨_, h1⟩, Ext.drewN _ _⟩
end

end Go.Proofs.YtcdkkohklhmpgaaGreatDoor
