/- Diagrams: the reference's Prune. -/
import Derived.Test.YtcdkkohklhmpgaaGreatDoorDhqr
import Derived.Test.YtcdkkohklhmpgaaGreatDoorDhac
import Derived.Deep.RegionLaw
import Derived.Deep.AppendLies
namespace Go.Proofs.YtcdkkohklhmpgaaGreatDoor
open Go Go.RowKit

theorem mkL_lenC (n : Nat) (p : Nat → Bool) : (mkL n p).length = cnt n p := mkL_len n p
theorem mkL_at {n x : Nat} {p : Nat → Bool} (hx : x < n) (hp : p x = true) : (mkL n p)[cnt x p]? = some x := by
  induction n with
  | zero => omega
  | succ n ih =>
    show (mkL n p ++ if p n = true then [n] else [])[cnt x p]? = some x
    by_cases e : x = n
    · subst e
      rw [if_pos hp, List.getElem?_append_right (by rw [mkL_len]; exact Nat.le_refl _), mkL_len]; simp
    · have h := ih (by omega)
      rw [List.getElem?_append_left ?_]
      · exact h
      · rcases Nat.lt_or_ge (cnt x p) (mkL n p).length with a | a
        · exact a
        · rw [List.getElem?_eq_none a] at h; cases h
theorem mkL_plc {n j : Nat} {p : Nat → Bool} (hj : j < (mkL n p).length) : (mkL n p).getD j 0 < n ∧ p ((mkL n p).getD j 0) = true ∧ cnt ((mkL n p).getD j 0) p = j := by
  have hm : (mkL n p).getD j 0 ∈ mkL n p := by rw [List.getD_eq_getElem?_getD, List.getElem?_eq_getElem hj]; exact List.getElem_mem hj
  obtain ⟨hx, hp⟩ := mem_mkL.1 hm
  refine ⟨hx, hp, ?_⟩
  generalize hxe : (mkL n p).getD j 0 = x at *
  have h1 : (mkL n p)[cnt x p]? = some x := mkL_at hx hp
  have h2 : (mkL n p)[j]? = some x := by
    rw [List.getElem?_eq_getElem hj]; rw [List.getD_eq_getElem?_getD, List.getElem?_eq_getElem hj] at hxe; simpa using hxe
  obtain ⟨hc, e1⟩ := List.getElem?_eq_some_iff.1 h1
  obtain ⟨_, e2⟩ := List.getElem?_eq_some_iff.1 h2
  have hp := List.pairwise_iff_getElem.1 (mkL_sorted n p)
  rcases Nat.lt_trichotomy (cnt x p) j with q | q | q
  · have := hp _ _ hc hj q
    have a : (mkL n p)[cnt x p] < (mkL n p)[j] := this
    rw [e1, e2] at a; omega
  · exact q
  · have := hp _ _ hj hc q
    have a : (mkL n p)[j] < (mkL n p)[cnt x p] := this
    rw [e1, e2] at a; omega
/-- The numbers of the kept blocks, while they are written. -/
def numJ (P : Nat → Bool) (k : Nat) (i : Nat) : Int := if P i = true ∧ cnt i P < k then (cnt i P : Nat) else 0
theorem numJ_put {n k : Nat} {P : Nat → Bool} (hk : k < (mkL n P).length) {i : Nat} (hi : i < n) : (if i = (mkL n P).getD k 0 then (k : Int) else numJ P k i) = numJ P (k + 1) i := by
  obtain ⟨hx, hp, hc⟩ := mkL_plc hk
  unfold numJ
  by_cases e : i = (mkL n P).getD k 0
  · rw [if_pos e, e, if_pos ⟨hp, by omega⟩, hc]
  · rw [if_neg e]
    by_cases q : P i = true
    · have hne : cnt i P ≠ k := fun h => by
        have h1 := mkL_at hi q
        rw [h] at h1
        rw [List.getD_eq_getElem?_getD, h1] at e; exact e rfl
      by_cases q2 : cnt i P < k
      · rw [if_pos ⟨q, q2⟩, if_pos ⟨q, by omega⟩]
      · rw [if_neg (fun h => q2 h.2), if_neg (fun h => by omega)]
    · rw [if_neg (fun h => q h.1), if_neg (fun h => q h.1)]
theorem numJ_end {n i : Nat} {P : Nat → Bool} (hi : i < n) (hp : P i = true) : numJ P (mkL n P).length i = (cnt i P : Nat) := by
  have h := mkL_at hi hp
  have hl : cnt i P < (mkL n P).length := by
    rcases Nat.lt_or_ge (cnt i P) (mkL n P).length with a | a
    · exact a
    · rw [List.getElem?_eq_none a] at h; cases h
  unfold numJ
  rw [if_pos ⟨hp, hl⟩]
theorem keep_arg {D : Dia} {x j : Nat} (hx : x < D.nb) (hp : keepP D x = true) (hk : (D.B x).k ≠ 0) (hj : j < (D.B x).n) : keepP D ((D.B x).a j).toNat = true := by
  have hns : ns D x = (D.B x).n := by unfold ns; rw [if_neg hk]
  exact (rch_is D.nb (nxD D true) _).clo x hx hp j (by unfold nxD; simp; omega)
theorem keep_out {D : Dia} {j : Nat} (hj : j < D.no) : keepP D (D.O j).toNat = true :=
  (rch_is D.nb (nxD D true) _).stt _ (by rw [inL_iff]; exact List.mem_map.2 ⟨j, List.mem_range.2 hj, rfl⟩)
def outL (D : Dia) (j : Nat) : List Nat := (List.range j).map fun q => (D.O q).toNat
theorem outL_succ (D : Dia) (j : Nat) : outL D (j + 1) = outL D j ++ [(D.O j).toNat] := by unfold outL; rw [List.range_succ, List.map_append]; rfl
theorem gr_on {W w w' : World} {go : Nat} {row : Option Nat} (h : W.grownBy w (some go)) (e : w.grownBy w' row) (hr : ∀ k, row = some k → W.heap.size ≤ k) : W.grownBy w' (some go) :=
  ⟨e.os.trans h.os, e.tape.trans h.tape, e.output.trans h.output, Nat.le_trans h.size e.size, fun k hk hne => (e.block k (Nat.lt_of_lt_of_le hk h.size) (fun q => by have := hr k q.symm; omega)).trans (h.block k hk hne)⟩
theorem gr_go {W w w' : World} {go : Nat} (h : W.grownBy w (some go)) (e : w.grownBy w' (some go)) : W.grownBy w' (some go) := fr_trans h e
/-- The pruned diagram's box while its outputs are listed. -/
structure PoM (W6 w : World) (go : Nat) (vI vB : Value) (A : Option Addr) (c : Nat) (L : List Nat) : Prop where
  gr : W6.grownBy w (some go)
  lt : go < W6.heap.size
  c0 : w.cell? ⟨go, 0, none⟩ = some vI
  c1 : w.cell? ⟨go, 1, none⟩ = some vB
  c2 : w.cell? ⟨go, 2, none⟩ = some (.slice A L.length c)
  fz : w.frozen? ⟨go, 2, none⟩ = false
  own : OwL w W6.heap.size A c L
theorem PoM.step {W6 w wb w' : World} {go g cap c : Nat} {vI vB : Value} {A : Option Addr} {L : List Nat} {x : Nat} (h : PoM W6 w go vI vB A c L) (e : Ext w wb) (o : OwL w' W6.heap.size (some ⟨g, 0, none⟩) cap (L ++ [x])) (hg : wb.grownBy w' (Value.slice A L.length c).ownBlock) :
    PoM W6 (w'.setCell ⟨go, 2, none⟩ (.slice (some ⟨g, 0, none⟩) (L ++ [x]).length cap)) go vI vB (some ⟨g, 0, none⟩) cap (L ++ [x]) ∧ w'.cell? ⟨go, 2, none⟩ = some (.slice A L.length c) ∧ w'.frozen? ⟨go, 2, none⟩ = false := by
  have hlt := h.lt
  have hwl : go < w.heap.size := Nat.lt_of_lt_of_le hlt h.gr.size
  have hol : ∀ k, (Value.slice A L.length c).ownBlock = some k → W6.heap.size ≤ k := fun k hk => (h.own.lt k hk).1
  have hgo : w'.heap[go]? = w.heap[go]? := (hg.block go (Nat.lt_of_lt_of_le hwl e.size) (fun q => by have := hol go q.symm; omega)).trans (e.block go hwl)
  have hcell : ∀ j v, w.cell? ⟨go, j, none⟩ = some v → w'.cell? ⟨go, j, none⟩ = some v := fun j v hv => by
    rw [← hv]; exact World.cell?_of_block (a := ⟨go, j, none⟩) hgo
  have hfz : w'.frozen? ⟨go, 2, none⟩ = false := by rw [← h.fz]; exact World.frozen?_of_block (a := ⟨go, 2, none⟩) hgo
  have gr' : W6.grownBy w' (some go) := gr_on (gr_on h.gr (ext_gr e) (fun k q => by cases q)) hg hol
  refine ⟨⟨fr_trans gr' (set_gr _ _ _ _), hlt, ?_, ?_, World.cell?_setCell_same _ _ _ (hcell 2 _ h.c2), by rw [World.frozen?_setCell]; exact hfz, o.off (set_gr _ _ _ _) hlt⟩, hcell 2 _ h.c2, hfz⟩
  · rw [World.cell?_setCell_other _ _ _ _ (by intro q; injection q with q1 q2; omega)]; exact hcell 0 _ h.c0
  · rw [World.cell?_setCell_other _ _ _ _ (by intro q; injection q with q1 q2; omega)]; exact hcell 1 _ h.c1
theorem fz_keep {w wb w' : World} {row : Option Nat} {go : Nat} (j : Nat) (e : Ext w wb) (hg : wb.grownBy w' row) (hl : go < w.heap.size) (hne : some go ≠ row) : w'.frozen? ⟨go, j, none⟩ = w.frozen? ⟨go, j, none⟩ :=
  World.frozen?_of_block (a := ⟨go, j, none⟩) ((hg.block go (Nat.lt_of_lt_of_le hl e.size) hne).trans (e.block go hl))
def outK (D : Dia) (P : Nat → Bool) (j : Nat) : List Nat := (List.range j).map fun q => cnt (D.O q).toNat P
theorem outK_succ (D : Dia) (P : Nat → Bool) (j : Nat) : outK D P (j + 1) = outK D P j ++ [cnt (D.O j).toNat P] := by unfold outK; rw [List.range_succ, List.map_append]; rfl
theorem outK_len (D : Dia) (P : Nat → Bool) (j : Nat) : (outK D P j).length = j := by unfold outK; simp
theorem outK_get (D : Dia) (P : Nat → Bool) {n j : Nat} (hj : j < n) : (((outK D P n).getD j 0 : Nat) : Int) = rk P D.O j := by unfold outK rk; simp [List.getD, hj]
theorem appL_step {ops : Array Oper} {o : Oper} {a : Act} {w : World} {K : Act → World → Prop} {Q : Exit → Act → World → Prop} {E : Prop} (hgd : o.guard = none) (s x : Operand) (ho : o.op = .call { callee := .builtin .append, args := #[s, x], argTypes := #[46, 46] })
    (base : Nat) (A : Option Addr) (c : Nat) (L : List Nat) (hs : a.eval s = .slice A L.length c) (hown : OwL w base A c L) (ad : Addr) (cx v : Nat) (hx : a.eval x = .slice (some ad) 1 cx) (hv : w.cell? ad = some (I v))
    (hn : L.length ≤ 1099511627776) (hbase : base ≤ w.heap.size)
    (h : ∀ g cap w', OwL w' base (some ⟨g, 0, none⟩) cap (L ++ [v]) → w.grownBy w' (Value.slice A L.length c).ownBlock → ((Value.slice A L.length c).ownBlock = some g ∨ g = w.heap.size) → g < w'.heap.size →
      K (a.put o.dst (.slice (some ⟨g, 0, none⟩) (L ++ [v]).length cap)) w') : if Region.wanted o (yielded ops a.tmps) = true then Oper.wp Tryz.prog o a w K Q else E := by
  obtain ⟨i, hi, hz, h1, hb⟩ := info_parts infoI
  refine step_append_lies w hgd s x _ ho base 3 i _ 1 8 Tryz.underlying46 hi hz h1 hb rfl (by omega) _ L.length _ hs hown ad 1 cx [I v] hx rfl (news1' hv) (by simp [Value.oneCell']) (by omega) (by unfold maxLen; omega) (by omega) hbase w.heap.size rfl ?_
  intro g cap w' h1 h2 h3 h4
  have e : (L ++ [v]).length = L.length + 1 := by simp
  have := h g cap w' (by unfold OwL; rw [e]; unfold nI at *; rw [List.map_append]; exact h1) h2 h3 h4
  rw [e] at this; exact this
/-- A block's arguments in new memory. -/
structure ArL (Wb w : World) (B : Option Addr) (n : Nat) (F : Nat → Int) : Prop where
  ext : Ext Wb w
  ri : 0 < n → ∃ gA, B = some ⟨gA, 0, none⟩ ∧ Wb.heap.size ≤ gA ∧ gA < w.heap.size ∧ ∀ j, j < n → w.cell? ⟨gA, j, none⟩ = some (I (F j)) ∧ w.frozen? ⟨gA, j, none⟩ = false
theorem ArL.of {Wb w : World} {B : Option Addr} {e n : Nat} {L : List Nat} {F : Nat → Int} (x : Ext Wb w) (o : OwL w Wb.heap.size B e L) (hn : L.length = n) (hF : ∀ j, j < n → F j = ((L.getD j 0 : Nat) : Int)) : ArL Wb w B n F := ⟨x, fun h0 => by
  have h' := o
  obtain ⟨_, ⟨e, hz⟩ | ⟨g, cap, cur, e, _⟩⟩ := h'
  · omega
  · injection e with e1 e2 e3
    subst e1
    have hl := o.lt g rfl
    refine ⟨g, rfl, hl.1, hl.2, fun j hj => ⟨?_, World.ownsRow.frozenAt o j⟩⟩
    have := World.ownsRow.cellAt o j (by omega)
    rw [this, hF j hj]
    have hj' : j < L.length := by omega
    simp [nI, List.getElem?_eq_getElem hj', List.getD]⟩
theorem ArL.rii {Wb w : World} {B : Option Addr} {n : Nat} {F : Nat → Int} (h : ArL Wb w B n F) : Ri w B n F := fun h0 => by
  obtain ⟨g, e, _, hl, hc⟩ := h.ri h0
  exact ⟨g, 0, e, hl, fun i hi => by rw [Nat.zero_add]; exact (hc i hi).1⟩
theorem ArL.congr {Wb w : World} {B : Option Addr} {n : Nat} {F F' : Nat → Int} (h : ArL Wb w B n F) (e : ∀ j, j < n → F j = F' j) : ArL Wb w B n F' := ⟨h.ext, fun h0 => by
  obtain ⟨g, e1, e2, hl, hc⟩ := h.ri h0
  exact ⟨g, e1, e2, hl, fun j hj => by rw [← e j hj]; exact hc j hj⟩⟩
theorem ArL.put {Wb w : World} {g n q : Nat} {F : Nat → Int} (h : ArL Wb w (some ⟨g, 0, none⟩) n F) (hq : q < n) (v : Int) : ArL Wb (w.setCell ⟨g, q, none⟩ (I v)) (some ⟨g, 0, none⟩) n (fun j => if j = q then v else F j) := by
  obtain ⟨g', e1, e2, hl, hc⟩ := h.ri (by omega)
  injection e1 with e1; injection e1 with e1 _
  subst e1
  refine ⟨h.ext.set e2 _, fun _ => ⟨g, rfl, e2, by simpa using hl, fun j hj => ⟨?_, by rw [World.frozen?_setCell]; exact (hc j hj).2⟩⟩⟩
  by_cases e : j = q
  · subst e; rw [if_pos rfl]; exact World.cell?_setCell_same _ _ _ (hc j hj).1
  · rw [if_neg e, World.cell?_setCell_other _ _ _ _ (by intro q; injection q with q1 q2; omega)]; exact (hc j hj).1
/-- What the reference's Prune returns. -/
def RprP (D : Dia) (P : Nat → Bool) (w : World) (e : Ending) (w' : World) : Prop :=
  ∃ pl AK ck, e = .returned (.tuple #[dgv (prD D P) pl, .slice AK (mkL D.nb P).length ck]) ∧ Dm w' (prD D P) pl ∧ Rl w' AK ck (mkL D.nb P) ∧ Ext w w'
end Go.Proofs.YtcdkkohklhmpgaaGreatDoor
