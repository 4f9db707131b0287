/- Programs of diagrams: lists of instructions, of ports and of ints that are appended. -/
import Derived.Test.YtkocmdpfknoiaaaGreatDoorKdb
import Derived.Test.YtkocmdpfknoiaaaGreatDoorKxa
import Derived.Deep.AppendLies
namespace Go.Proofs.YtkocmdpfknoiaaaGreatDoor
open Go Go.RowKit Go.ChangeShapes Go.WideShapes

theorem infoIns : (Tryz.prog.info? 83).map (fun i => (i.zero.map (fun z => z.cells.size), i.size, i.bytes)) = some (some 7, 7, 56) := by kernel_rfl
theorem infoIns' : ∃ i z, Tryz.prog.info? 83 = some i ∧ i.zero = some z ∧ i.size = 7 ∧ i.bytes = 56 ∧ z.cells.size = 7 := by
  have h := infoIns
  cases hi : Tryz.prog.info? 83 with
  | none => rw [hi] at h; cases h
  | some i =>
    rw [hi] at h
    simp only [Option.map_some, Option.some.injEq, Prod.mk.injEq] at h
    obtain ⟨h1, h2, h3⟩ := h
    cases hz : i.zero with
    | none => rw [hz] at h1; cases h1
    | some z =>
      rw [hz] at h1
      exact ⟨i, z, rfl, hz, h2, h3, by simpa using h1⟩
def xc7 (x : Ins) : List Value := [I x.op, I x.dst, I x.a, I x.b, I x.sa, I x.sb, I x.im]
def xvs : List Ins → List Value
  | [] => []
  | x :: L => xc7 x ++ xvs L
theorem xvs_app (L M : List Ins) : xvs (L ++ M) = xvs L ++ xvs M := by
  induction L with
  | nil => rfl
  | cons x L ih => show xc7 x ++ xvs (L ++ M) = (xc7 x ++ xvs L) ++ xvs M; rw [ih, List.append_assoc]
theorem xvs_len (L : List Ins) : (xvs L).length = L.length * 7 := by
  induction L with
  | nil => rfl
  | cons x L ih => show (xc7 x ++ xvs L).length = (L.length + 1) * 7; rw [List.length_append, ih]; show 7 + _ = _; omega
theorem xvs_get {L : List Ins} {i j : Nat} (hi : i < L.length) (hj : j < 7) : (xvs L)[i * 7 + j]? = (xc7 (L.getD i ins0))[j]? := by
  induction L generalizing i with
  | nil => exact absurd hi (by simp)
  | cons x L ih =>
    show (xc7 x ++ xvs L)[i * 7 + j]? = _
    cases i with
    | zero =>
      rw [List.getElem?_append_left (by show _ < 7; omega)]
      rw [show 0 * 7 + j = j by omega]; rfl
    | succ i =>
      rw [List.getElem?_append_right (by show 7 ≤ _; omega)]
      show (xvs L)[(i + 1) * 7 + j - 7]? = _
      rw [show (i + 1) * 7 + j - 7 = i * 7 + j by omega]
      exact ih (by simp at hi; omega)
theorem xvs_one (L : List Ins) : ∀ u ∈ xvs L, u.oneCell' = true := by
  induction L with
  | nil => intro u hu; cases hu
  | cons x L ih =>
    intro u hu
    rcases List.mem_append.1 (show u ∈ xc7 x ++ xvs L from hu) with h | h
    · simp only [xc7, List.mem_cons, List.not_mem_nil, or_false] at h
      rcases h with rfl | rfl | rfl | rfl | rfl | rfl | rfl <;> rfl
    · exact ih u h
/-- The slice owns its memory and holds the instructions. -/
def OwX (w : World) (base : Nat) (A : Option Addr) (c : Nat) (L : List Ins) : Prop := w.ownsRow base 83 7 (.slice A L.length c) L.length (xvs L)
theorem OwX.nil (w : World) (base : Nat) : OwX w base none 0 [] := World.ownsRow_nil _ _ _ _
theorem OwX.lt {w : World} {base c : Nat} {A : Option Addr} {L : List Ins} (h : OwX w base A c L) : ∀ k, (Value.slice A L.length c).ownBlock = some k → base ≤ k ∧ k < w.heap.size := World.ownsRow.lt h
theorem OwX.ext {w w' : World} {base c : Nat} {A : Option Addr} {L : List Ins} (h : OwX w base A c L) (e : Ext w w') : OwX w' base A c L :=
  World.ownsRow.kept h (ext_gr e) (by cases (Value.slice A L.length c).ownBlock <;> simp)
theorem growX_ext {W w w' : World} {base c : Nat} {A : Option Addr} {L : List Ins} (e : Ext W w) (h : OwX w base A c L) (hb : W.heap.size ≤ base) (hg : w.grownBy w' (Value.slice A L.length c).ownBlock) : Ext W w' :=
  Below.grown e hg e.size (fun k hk => Nat.le_trans hb (h.lt k hk).1)
theorem OwX.rx {w : World} {base c : Nat} {A : Option Addr} {L : List Ins} (h : OwX w base A c L) : Rx w A L.length (fun i => L.getD i ins0) := fun h0 => by
  have h' := h
  obtain ⟨_, ⟨e, hz⟩ | ⟨g, cap, cur, e, _⟩⟩ := h'
  · omega
  · injection e with e1 e2 e3
    subst e1
    refine ⟨g, 0, rfl, (h.lt g rfl).2, fun i hi => ?_⟩
    have hc : ∀ j, j < 7 → w.cell? ⟨g, i * 7 + j, none⟩ = (xc7 (L.getD i ins0))[j]? := fun j hj => by
      rw [World.ownsRow.cellAt h (i * 7 + j) (by omega)]; exact xvs_get hi hj
    simp only [Nat.zero_add]
    exact ⟨hc 0 (by omega), hc 1 (by omega), hc 2 (by omega), hc 3 (by omega), hc 4 (by omega), hc 5 (by omega), hc 6 (by omega)⟩
theorem OwX.cap {w : World} {base c : Nat} {A : Option Addr} {L : List Ins} (h : OwX w base A c L) : L.length ≤ c := by
  obtain ⟨_, ⟨e, hz⟩ | ⟨g, cap, cur, e, hb, hg, hnc, hcm, hcs, ht⟩⟩ := h
  · omega
  · injection e with e1 e2 e3; omega
theorem OwX.len0 {w : World} {base c : Nat} {A : Option Addr} {L : List Ins} (h : OwX w base A c L) : A = none → c = 0 ∧ L.length = 0 := fun hA => by
  obtain ⟨_, ⟨e, h0⟩ | ⟨g, cap, cur, e, _⟩⟩ := h
  · injection e with e1 e2 e3; exact ⟨e3, h0⟩
  · injection e with e1 e2 e3; rw [hA] at e1; cases e1
theorem appX {ops : Array Oper} {rest : List Oper} {o : Oper} {a : Act} {w : World} {Q : Exit → Act → World → Prop} (hgd : o.guard = none) (s x : Operand) (ho : o.op = .call { callee := .builtin .append, args := #[s, x], argTypes := #[29, 29] })
    (base : Nat) (A : Option Addr) (c : Nat) (L Y : List Ins) (n m : Nat) (hL : L.length = n) (hY : Y.length = m) (hs : a.eval s = .slice A n c) (hown : OwX w base A c L) (ad : Addr) (cx : Nat) (hx : a.eval x = .slice (some ad) m cx) (hv : ∀ j u, (xvs Y)[j]? = some u → w.cell? (ad.add j) = some u)
    (h0 : 0 < m) (hn : n + m ≤ 10000) (hbase : base ≤ w.heap.size)
    (h : ∀ g cap w', OwX w' base (some ⟨g, 0, none⟩) cap (L ++ Y) → w.grownBy w' (Value.slice A L.length c).ownBlock → ((Value.slice A L.length c).ownBlock = some g ∨ g = w.heap.size) → g < w'.heap.size →
      wpList Tryz.prog ops Q rest (a.put o.dst (.slice (some ⟨g, 0, none⟩) (n + m) cap)) w') : wpList Tryz.prog ops Q (o :: rest) a w := by
  obtain ⟨i, z, hi, hz, h1, hb, hzs⟩ := infoIns'
  subst hL; subst hY
  refine wpList_append_lies w hgd s x _ ho base 83 i z 7 56 Tryz.underlying29 hi hz h1 hb hzs (by omega) _ L.length _ hs hown ad Y.length cx (xvs Y) hx (xvs_len _) hv (xvs_one _) h0 (by unfold maxLen; omega) (by omega) hbase w.heap.size rfl ?_
  intro g cap w' o1 o2 o3 o4
  refine h g cap w' ?_ o2 o3 o4
  unfold OwX; rw [xvs_app, List.length_append]; exact o1
/-- The cells of an instruction's box. -/
theorem bi7_news {w : World} {g : Nat} {x : Ins} (h : BI7 w g x) : ∀ j u, (xvs [x])[j]? = some u → w.cell? ((⟨g, 0, none⟩ : Addr).add j) = some u := fun j u hj => by
  have hjn : j < 7 := by
    rcases Nat.lt_or_ge j 7 with h | h
    · exact h
    · rw [List.getElem?_eq_none (by rw [xvs_len]; exact h)] at hj; cases hj
  have hadd : (⟨g, 0, none⟩ : Addr).add j = ⟨g, j, none⟩ := by unfold Addr.add; split <;> simp_all
  rw [hadd]
  have hc : j = 0 ∨ j = 1 ∨ j = 2 ∨ j = 3 ∨ j = 4 ∨ j = 5 ∨ j = 6 := by omega
  rcases hc with rfl | rfl | rfl | rfl | rfl | rfl | rfl
  · exact h.c0.trans hj
  · exact h.c1.trans hj
  · exact h.c2.trans hj
  · exact h.c3.trans hj
  · exact h.c4.trans hj
  · exact h.c5.trans hj
  · exact h.c6.trans hj
/-! ### Many ints appended -/
def jnF (F : Nat → Int) (n : Nat) (G : Nat → Int) : Nat → Int := fun i => if i < n then F i else G (i - n)
theorem ivs_congr {F G : Nat → Int} {n : Nat} (h : ∀ i, i < n → F i = G i) : ivs F n = ivs G n := by
  induction n with
  | zero => rfl
  | succ n ih => show ivs F n ++ [_] = ivs G n ++ [_]; rw [ih fun i hi => h i (by omega), h n (by omega)]
theorem ivs_join (F G : Nat → Int) (n m : Nat) : ivs F n ++ ivs G m = ivs (jnF F n G) (n + m) := by
  induction m with
  | zero => show _ ++ [] = _; rw [List.append_nil]; exact ivs_congr fun i hi => by unfold jnF; rw [if_pos hi]
  | succ m ih =>
    show ivs F n ++ (ivs G m ++ [I (G m)]) = ivs (jnF F n G) (n + m) ++ [I (jnF F n G (n + m))]
    rw [← List.append_assoc, ih]
    have : jnF F n G (n + m) = G m := by unfold jnF; rw [if_neg (by omega)]; congr 1; omega
    rw [this]
theorem OwI.congr {w : World} {base c n : Nat} {A : Option Addr} {F G : Nat → Int} (h : OwI w base A c F n) (e : ∀ i, i < n → F i = G i) : OwI w base A c G n := by
  unfold OwI at h ⊢; rw [← ivs_congr e]; exact h
theorem appIs {ops : Array Oper} {rest : List Oper} {o : Oper} {a : Act} {w : World} {Q : Exit → Act → World → Prop} (hgd : o.guard = none) (s x : Operand) (ho : o.op = .call { callee := .builtin .append, args := #[s, x], argTypes := #[24, 24] })
    (base : Nat) (A : Option Addr) (c : Nat) (F : Nat → Int) (n : Nat) (hs : a.eval s = .slice A n c) (hown : OwI w base A c F n) (A' : Option Addr) (m cx : Nat) (G : Nat → Int) (hx : a.eval x = .slice A' m cx) (r : Ri w A' m G)
    (h0 : 0 < m) (hn : n + m ≤ 100000) (hbase : base ≤ w.heap.size)
    (h : ∀ g cap w', OwI w' base (some ⟨g, 0, none⟩) cap (jnF F n G) (n + m) → w.grownBy w' (Value.slice A n c).ownBlock → ((Value.slice A n c).ownBlock = some g ∨ g = w.heap.size) → g < w'.heap.size →
      wpList Tryz.prog ops Q rest (a.put o.dst (.slice (some ⟨g, 0, none⟩) (n + m) cap)) w') : wpList Tryz.prog ops Q (o :: rest) a w := by
  obtain ⟨i, hi, hz, h1, hb⟩ := info_parts infoI
  obtain ⟨b, oo, rfl, hbl, hc⟩ := r h0
  refine wpList_append_lies w hgd s x _ ho base 3 i _ 1 8 Tryz.underlying24 hi hz h1 hb rfl (by omega) _ n _ hs hown ⟨b, oo, none⟩ m cx (ivs G m) hx (by rw [ivs_len, Nat.mul_one]) ?_ ?_ h0 (by unfold maxLen; omega) (by omega) hbase w.heap.size rfl ?_
  · intro j u hj
    have hjm : j < m := by
      rcases Nat.lt_or_ge j m with h | h
      · exact h
      · rw [List.getElem?_eq_none (by rw [ivs_len]; omega)] at hj; cases hj
    rw [ivs_get hjm] at hj
    obtain rfl := Option.some.inj hj
    have hadd : (⟨b, oo, none⟩ : Addr).add j = ⟨b, oo + j, none⟩ := by unfold Addr.add; split <;> simp_all
    rw [hadd, hc j hjm]
  · intro u hu
    obtain ⟨k, hk, rfl⟩ := List.mem_iff_getElem.1 hu
    have hk' : k < m := by rw [ivs_len] at hk; exact hk
    have := ivs_get (F := G) hk'
    rw [List.getElem?_eq_getElem hk] at this
    rw [Option.some.inj this]; rfl
  · intro g cap w' o1 o2 o3 o4
    refine h g cap w' ?_ o2 o3 o4
    unfold OwI; rw [← ivs_join]; exact o1
end Go.Proofs.YtkocmdpfknoiaaaGreatDoor
