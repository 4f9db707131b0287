/- Diagrams: the reference's Prune. -/
import Derived.Test.YtgnaljnmjphleaaDoorDhqr
import Derived.Test.YtgnaljnmjphleaaDoorDhac
import Derived.Deep.RegionLaw
import Derived.Deep.AppendLies
namespace Go.Proofs.YtgnaljnmjphleaaDoor
open Go Go.RowKit

theorem mkL_lenC (n : Nat) (p : Nat → Bool) : (mkL n p).length = cnt n p := mkL_len n p
theorem mkL_at {n x : Nat} {p : Nat → Bool} (hx : x < n) (hp : p x = true) : (mkL n p)[cnt x p]? = some x := by
  induction n with
  | zero => omega
  | succ n ih =>
    show (mkL n p ++ if p n = true then [n] else [])[cnt x p]? = some x
    by_cases e : x = n
    · subst e
      rw [if_pos hp, List.getElem?_append_right (by rw [mkL_len]; exact Nat.le_refl _), mkL_len]; simp
    · have h := ih (by omega)
      rw [List.getElem?_append_left ?_]
      · exact h
      · rcases Nat.lt_or_ge (cnt x p) (mkL n p).length with a | a
        · exact a
        · rw [List.getElem?_eq_none a] at h; cases h
theorem mkL_plc {n j : Nat} {p : Nat → Bool} (hj : j < (mkL n p).length) : (mkL n p).getD j 0 < n ∧ p ((mkL n p).getD j 0) = true ∧ cnt ((mkL n p).getD j 0) p = j := by
  have hm : (mkL n p).getD j 0 ∈ mkL n p := by rw [List.getD_eq_getElem?_getD, List.getElem?_eq_getElem hj]; exact List.getElem_mem hj
  obtain ⟨hx, hp⟩ := mem_mkL.1 hm
  refine ⟨hx, hp, ?_⟩
  generalize hxe : (mkL n p).getD j 0 = x at *
  have h1 : (mkL n p)[cnt x p]? = some x := mkL_at hx hp
  have h2 : (mkL n p)[j]? = some x := by
    rw [List.getElem?_eq_getElem hj]; rw [List.getD_eq_getElem?_getD, List.getElem?_eq_getElem hj] at hxe; simpa using hxe
  obtain ⟨hc, e1⟩ := List.getElem?_eq_some_iff.1 h1
  obtain ⟨_, e2⟩ := List.getElem?_eq_some_iff.1 h2
  have hp := List.pairwise_iff_getElem.1 (mkL_sorted n p)
  rcases Nat.lt_trichotomy (cnt x p) j with q | q | q
  · have := hp _ _ hc hj q
    have a : (mkL n p)[cnt x p] < (mkL n p)[j] := this
    rw [e1, e2] at a; omega
  · exact q
  · have := hp _ _ hj hc q
    have a : (mkL n p)[j] < (mkL n p)[cnt x p] := this
    rw [e1, e2] at a; omega
/-- The numbers of the kept blocks, while they are written. -/
def numJ (P : Nat → Bool) (k : Nat) (i : Nat) : Int := if P i = true ∧ cnt i P < k then (cnt i P : Nat) else 0
theorem numJ_put {n k : Nat} {P : Nat → Bool} (hk : k < (mkL n P).length) {i : Nat} (hi : i < n) : (if i = (mkL n P).getD k 0 then (k : Int) else numJ P k i) = numJ P (k + 1) i := by
  obtain ⟨hx, hp, hc⟩ := mkL_plc hk
  unfold numJ
  by_cases e : i = (mkL n P).getD k 0
  · rw [if_pos e, e, if_pos ⟨hp, by omega⟩, hc]
  · rw [if_neg e]
    by_cases q : P i = true
    · have hne : cnt i P ≠ k := fun h => by
        have h1 := mkL_at hi q
        rw [h] at h1
        rw [List.getD_eq_getElem?_getD, h1] at e; exact e rfl
      by_cases q2 : cnt i P < k
      · rw [if_pos ⟨q, q2⟩, if_pos ⟨q, by omega⟩]
      · rw [if_neg (fun h => q2 h.2), if_neg (fun h => by omega)]
    · rw [if_neg (fun h => q h.1), if_neg (fun h => q h.1)]
theorem numJ_end {n i : Nat} {P : Nat → Bool} (hi : i < n) (hp : P i = true) : numJ P (mkL n P).length i = (cnt i P : Nat) := by
  have h := mkL_at hi hp
  have hl : cnt i P < (mkL n P).length := by
    rcases Nat.lt_or_ge (cnt i P) (mkL n P).length with a | a
    · exact a
    · rw [List.getElem?_eq_none a] at h; cases h
  unfold numJ
  rw [if_pos ⟨hp, hl⟩]
theorem keep_arg {D : Dia} {x j : Nat} (hx : x < D.nb) (hp : keepP D x = true) (hk : (D.B x).k ≠ 0) (hj : j < (D.B x).n) : keepP D ((D.B x).a j).toNat = true := by
  have hns : ns D x = (D.B x).n := by unfold ns; rw [if_neg hk]
  exact (rch_is D.nb (nxD D true) _).clo x hx hp j (by unfold nxD; simp; omega)
theorem keep_out {D : Dia} {j : Nat} (hj : j < D.no) : keepP D (D.O j).toNat = true :=
  (rch_is D.nb (nxD D true) _).stt _ (by rw [inL_iff]; exact List.mem_map.2 ⟨j, List.mem_range.2 hj, rfl⟩)
def outL (D : Dia) (j : Nat) : List Nat := (List.range j).map fun q => (D.O q).toNat
theorem outL_succ (D : Dia) (j : Nat) : outL D (j + 1) = outL D j ++ [(D.O j).toNat] := by unfold outL; rw [List.range_succ, List.map_append]; rfl
theorem gr_on {W w w' : World} {go : Nat} {row : Option Nat} (h : W.grownBy w (some go)) (e : w.grownBy w' row) (hr : ∀ k, row = some k → W.heap.size ≤ k) : W.grownBy w' (some go) :=
  ⟨e.os.trans h.os, e.tape.trans h.tape, e.output.trans h.output, Nat.le_trans h.size e.size, fun k hk hne => (e.block k (Nat.lt_of_lt_of_le hk h.size) (fun q => by have := hr k q.symm; omega)).trans (h.block k hk hne)⟩
theorem gr_go {W w w' : World} {go : Nat} (h : W.grownBy w (some go)) (e : w.grownBy w' (some go)) : W.grownBy w' (some go) := fr_trans h e
/-- The pruned diagram's box while its outputs are listed. -/
structure PoM (W6 w : World) (go : Nat) (vI vB : Value) (A : Option Addr) (c : Nat) (L : List Nat) : Prop where
  gr : W6.grownBy w (some go)
  lt : go < W6.heap.size
  c0 : w.cell? ⟨go, 0, none⟩ = some vI
  c1 : w.cell? ⟨go, 1, none⟩ = some vB
  c2 : w.cell? ⟨go, 2, none⟩ = some (.slice A L.length c)
  fz : w.frozen? ⟨go, 2, none⟩ = false
  own : OwL w W6.heap.size A c L
theorem PoM.step {W6 w wb w' : World} {go g cap c : Nat} {vI vB : Value} {A : Option Addr} {L : List Nat} {x : Nat} (h : PoM W6 w go vI vB A c L) (e : Ext w wb) (o : OwL w' W6.heap.size (some ⟨g, 0, none⟩) cap (L ++ [x])) (hg : wb.grownBy w' (Value.slice A L.length c).ownBlock) :
    PoM W6 (w'.setCell ⟨go, 2, none⟩ (.slice (some ⟨g, 0, none⟩) (L ++ [x]).length cap)) go vI vB (some ⟨g, 0, none⟩) cap (L ++ [x]) ∧ w'.cell? ⟨go, 2, none⟩ = some (.slice A L.length c) ∧ w'.frozen? ⟨go, 2, none⟩ = false := by
  have hlt := h.lt
  have hwl : go < w.heap.size := Nat.lt_of_lt_of_le hlt h.gr.size
  have hol : ∀ k, (Value.slice A L.length c).ownBlock = some k → W6.heap.size ≤ k := fun k hk => (h.own.lt k hk).1
  have hgo : w'.heap[go]? = w.heap[go]? := (hg.block go (Nat.lt_of_lt_of_le hwl e.size) (fun q => by have := hol go q.symm; omega)).trans (e.block go hwl)
  have hcell : ∀ j v, w.cell? ⟨go, j, none⟩ = some v → w'.cell? ⟨go, j, none⟩ = some v := fun j v hv => by
    rw [← hv]; exact World.cell?_of_block (a := ⟨go, j, none⟩) hgo
  have hfz : w'.frozen? ⟨go, 2, none⟩ = false := by rw [← h.fz]; exact World.frozen?_of_block (a := ⟨go, 2, none⟩) hgo
  have gr' : W6.grownBy w' (some go) := gr_on (gr_on h.gr (ext_gr e) (fun k q => by cases q)) hg hol
  refine ⟨⟨fr_trans gr' (set_gr _ _ _ _), hlt, ?_, ?_, World.cell?_setCell_same _ _ _ (hcell 2 _ h.c2), by rw [World.frozen?_setCell]; exact hfz, o.off (set_gr _ _ _ _) hlt⟩, hcell 2 _ h.c2, hfz⟩
  · rw [World.cell?_setCell_other _ _ _ _ (by intro q; injection q with q1 q2; omega)]; exact hcell 0 _ h.c0
  · rw [World.cell?_setCell_other _ _ _ _ (by intro q; injection q with q1 q2; omega)]; exact hcell 1 _ h.c1
theorem fz_keep {w wb w' : World} {row : Option Nat} {go : Nat} (j : Nat) (e : Ext w wb) (hg : wb.grownBy w' row) (hl : go < w.heap.size) (hne : some go ≠ row) : w'.frozen? ⟨go, j, none⟩ = w.frozen? ⟨go, j, none⟩ :=
  World.frozen?_of_block (a := ⟨go, j, none⟩) ((hg.block go (Nat.lt_of_lt_of_le hl e.size) hne).trans (e.block go hl))
def outK (D : Dia) (P : Nat → Bool) (j : Nat) : List Nat := (List.range j).map fun q => cnt (D.O q).toNat P
theorem outK_succ (D : Dia) (P : Nat → Bool) (j : Nat) : outK D P (j + 1) = outK D P j ++ [cnt (D.O j).toNat P] := by unfold outK; rw [List.range_succ, List.map_append]; rfl
theorem outK_len (D : Dia) (P : Nat → Bool) (j : Nat) : (outK D P j).length = j := by unfold outK; simp
theorem outK_get (D : Dia) (P : Nat → Bool) {n j : Nat} (hj : j < n) : (((outK D P n).getD j 0 : Nat) : Int) = rk P D.O j := by unfold outK rk; simp [List.getD, hj]
theorem appL_step {ops : Array Oper} {o : Oper} {a : Act} {w : World} {K : Act → World → Prop} {Q : Exit → Act → World → Prop} {E : Prop} (hgd : o.guard = none) (s x : Operand) (ho : o.op = .call { callee := .builtin .append, args := #[s, x], argTypes := #[24, 24] })
    (base : Nat) (A : Option Addr) (c : Nat) (L : List Nat) (hs : a.eval s = .slice A L.length c) (hown : OwL w base A c L) (ad : Addr) (cx v : Nat) (hx : a.eval x = .slice (some ad) 1 cx) (hv : w.cell? ad = some (I v))
    (hn : L.length ≤ 1099511627776) (hbase : base ≤ w.heap.size)
    (h : ∀ g cap w', OwL w' base (some ⟨g, 0, none⟩) cap (L ++ [v]) → w.grownBy w' (Value.slice A L.length c).ownBlock → ((Value.slice A L.length c).ownBlock = some g ∨ g = w.heap.size) → g < w'.heap.size →
      K (a.put o.dst (.slice (some ⟨g, 0, none⟩) (L ++ [v]).length cap)) w') : if Region.wanted o (yielded ops a.tmps) = true then Oper.wp Tryd.prog o a w K Q else E := by
  obtain ⟨i, hi, hz, h1, hb⟩ := info_parts infoI
  refine step_append_lies w hgd s x _ ho base 3 i _ 1 8 Tryd.underlying24 hi hz h1 hb rfl (by omega) _ L.length _ hs hown ad 1 cx [I v] hx rfl (news1' hv) (by simp [Value.oneCell']) (by omega) (by unfold maxLen; omega) (by omega) hbase w.heap.size rfl ?_
  intro g cap w' h1 h2 h3 h4
  have e : (L ++ [v]).length = L.length + 1 := by simp
  have := h g cap w' (by unfold OwL; rw [e]; unfold nI at *; rw [List.map_append]; exact h1) h2 h3 h4
  rw [e] at this; exact this
/-- A block's arguments in new memory. -/
structure ArL (Wb w : World) (B : Option Addr) (n : Nat) (F : Nat → Int) : Prop where
  ext : Ext Wb w
  ri : 0 < n → ∃ gA, B = some ⟨gA, 0, none⟩ ∧ Wb.heap.size ≤ gA ∧ gA < w.heap.size ∧ ∀ j, j < n → w.cell? ⟨gA, j, none⟩ = some (I (F j)) ∧ w.frozen? ⟨gA, j, none⟩ = false
theorem ArL.of {Wb w : World} {B : Option Addr} {e n : Nat} {L : List Nat} {F : Nat → Int} (x : Ext Wb w) (o : OwL w Wb.heap.size B e L) (hn : L.length = n) (hF : ∀ j, j < n → F j = ((L.getD j 0 : Nat) : Int)) : ArL Wb w B n F := ⟨x, fun h0 => by
  have h' := o
  obtain ⟨_, ⟨e, hz⟩ | ⟨g, cap, cur, e, _⟩⟩ := h'
  · omega
  · injection e with e1 e2 e3
    subst e1
    have hl := o.lt g rfl
    refine ⟨g, rfl, hl.1, hl.2, fun j hj => ⟨?_, World.ownsRow.frozenAt o j⟩⟩
    have := World.ownsRow.cellAt o j (by omega)
    rw [this, hF j hj]
    have hj' : j < L.length := by omega
    simp [nI, List.getElem?_eq_getElem hj', List.getD]⟩
theorem ArL.rii {Wb w : World} {B : Option Addr} {n : Nat} {F : Nat → Int} (h : ArL Wb w B n F) : Ri w B n F := fun h0 => by
  obtain ⟨g, e, _, hl, hc⟩ := h.ri h0
  exact ⟨g, 0, e, hl, fun i hi => by rw [Nat.zero_add]; exact (hc i hi).1⟩
theorem ArL.congr {Wb w : World} {B : Option Addr} {n : Nat} {F F' : Nat → Int} (h : ArL Wb w B n F) (e : ∀ j, j < n → F j = F' j) : ArL Wb w B n F' := ⟨h.ext, fun h0 => by
  obtain ⟨g, e1, e2, hl, hc⟩ := h.ri h0
  exact ⟨g, e1, e2, hl, fun j hj => by rw [← e j hj]; exact hc j hj⟩⟩
theorem ArL.put {Wb w : World} {g n q : Nat} {F : Nat → Int} (h : ArL Wb w (some ⟨g, 0, none⟩) n F) (hq : q < n) (v : Int) : ArL Wb (w.setCell ⟨g, q, none⟩ (I v)) (some ⟨g, 0, none⟩) n (fun j => if j = q then v else F j) := by
  obtain ⟨g', e1, e2, hl, hc⟩ := h.ri (by omega)
  injection e1 with e1; injection e1 with e1 _
  subst e1
  refine ⟨h.ext.set e2 _, fun _ => ⟨g, rfl, e2, by simpa using hl, fun j hj => ⟨?_, by rw [World.frozen?_setCell]; exact (hc j hj).2⟩⟩⟩
  by_cases e : j = q
  · subst e; rw [if_pos rfl]; exact World.cell?_setCell_same _ _ _ (hc j hj).1
  · rw [if_neg e, World.cell?_setCell_other _ _ _ _ (by intro q; injection q with q1 q2; omega)]; exact (hc j hj).1
/-- What the reference's Prune returns. -/
def RprP (D : Dia) (P : Nat → Bool) (w : World) (e : Ending) (w' : World) : Prop :=
  ∃ pl AK ck, e = .returned (.tuple #[dgv (prD D P) pl, .slice AK (mkL D.nb P).length ck]) ∧ Dm w' (prD D P) pl ∧ Rl w' AK ck (mkL D.nb P) ∧ Ext w w'
set_option maxRecDepth 100000 in
set_option maxHeartbeats 8000000 in
theorem rPrune_ok {w : World} {D : Dia} {p : Pl} (d : Dm w D p) (h : chk D = 0) : Calls Tryd.prog 10 #[dgv D p] w (RprP D (keepP D) w) := by
  have ok := chk_ok h
  have wf := ok.toWF
  have hno := wf.no
  have hnb := wf.nb
  have hni := wf.ni
  obtain ⟨W1, hW1⟩ : ∃ W1, W1 = (w.alloc (.cells #[.slice p.AI D.ni p.cI, .slice p.AB D.nb p.cB, .slice p.AO D.no p.cO] 26)).alloc (.cells #[.slice none 0 0, .slice none 0 0, .slice none 0 0] 26) := ⟨_, rfl⟩
  have hE : Ext w W1 := by rw [hW1]; exact (Ext.alloc _ _).trans (Ext.alloc _ _)
  have hbd : Bd W1 w.heap.size D p := by rw [hW1]; exact (Bd.new _ _ _ _).ext (Ext.alloc _ _)
  have HBX : Hid (∀ w', Ext W1 w' → w'.cell? ⟨w.heap.size, 0, none⟩ = some (.slice p.AI D.ni p.cI) ∧ w'.cell? ⟨w.heap.size, 1, none⟩ = some (.slice p.AB D.nb p.cB) ∧ w'.cell? ⟨w.heap.size, 2, none⟩ = some (.slice p.AO D.no p.cO)) := fun w' e => by
    have a := hbd.ext e; exact ⟨a.c0, a.c1, a.c2⟩
  have hrb : Bx W1 (w.heap.size + 1) (.slice none 0 0) (.slice none 0 0) (.slice none 0 0) := by
    rw [hW1]
    have := Bx.new (w.alloc (.cells #[.slice p.AI D.ni p.cI, .slice p.AB D.nb p.cB, .slice p.AO D.no p.cO] 26)) (.slice none 0 0) (.slice none 0 0) (.slice none 0 0) 26
    rwa [show (w.alloc (.cells #[.slice p.AI D.ni p.cI, .slice p.AB D.nb p.cB, .slice p.AO D.no p.cO] 26)).heap.size = w.heap.size + 1 by simp] at this
  have HRB := Lib.hid hrb
  have hz1 : W1.heap.size = w.heap.size + 1 + 1 := by rw [hW1]; simp
  have hmk := run_make_row' 66 4 (.bool false) 1 Tryd.underlying66 infoB rfl .i64 .i64 D.nb (by omega) (by omega)
  have hmk2 := run_make_row' 24 3 (I 0) 8 Tryd.underlying24 infoI rfl .i64 .i64 D.nb (by omega) (by omega)
  obtain ⟨W2, hW2⟩ : ∃ W2, W2 = W1.alloc (.cells (madeCells #[.bool false] D.nb) 4) := ⟨_, rfl⟩
  obtain ⟨g1, hg1⟩ : ∃ g1, w.heap.size + 1 + 1 = g1 := ⟨_, rfl⟩
  have hrow : W2.rowIs g1 4 D.nb (fun _ => .bool false) := by rw [hW2]; exact rowIs_made' W1 (.bool false) D.nb 4 (by omega)
  have HM0 : Hid (W2.rowIs g1 4 D.nb (fun i => .bool (inL (outL D 0) i)) ∧ Ext W1 W2) := ⟨hrow.congr fun i _ => rfl, by rw [hW2]; exact Ext.alloc _ _⟩
  have HND : Hid (∀ w' st, Ext W1 w' → w'.rowIs g1 4 D.nb (fun i => .bool (st i)) → Calls Tryd.prog 31 #[dgv D p, .slice (some ⟨g1, 0, none⟩) D.nb D.nb, .bool true] w' (NdP W1 g1 D.nb (nxD D true) st)) := fun w' st e r => needed_any (W0 := W1) true (d.ext hE) wf e (by omega) r
  have HLS : Hid (∀ w' S, w'.rowIs g1 4 D.nb (fun x => .bool (S x)) → Calls Tryd.prog 30 #[.slice (some ⟨g1, 0, none⟩) D.nb D.nb] w' (LsR (mkL D.nb S) w')) := fun w' S h => list_any (by omega) h
  have HKP : Hid (∀ S, IsR D.nb (nxD D true) (inL (outL D D.no)) S → mkL D.nb S = mkL D.nb (keepP D)) := fun S hS => mkL_congr fun k _ => hS.uniq (rch_is D.nb (nxD D true) _) k
  have HE := Lib.hid hE; have HD := Lib.hid (d.ext hE); have OK := Lib.hid ok
  have HG1 : Hid (W1.heap.size ≤ g1 ∧ W1.heap.size = w.heap.size + 1 + 1) := ⟨by omega, hz1⟩
  obtain ⟨c0, c1, c2⟩ := HBX.out _ HM0.out.2
  have HW2 := Lib.hid hW2
  clear d wf hE hbd hrb hrow ok h hW2
  go_enter Tryd.func10, Tryd.ntmps10
  go_upto_region 1 with fail
  rw [← hW1]
  clear hW1
  obtain ⟨k0, k1, k2⟩ := HBX.out W1 (Ext.refl _)
  go_upto_region 2 with fail
  (try rw [hz1])
  (try rw [hg1])
  rw [← HW2.out]
  clear HW2 k0 k1 k2
  go_wp2_with fail
  clear c0 c1 c2
  go_loopw [27] (fun s wr => ∃ j : Nat, j ≤ D.no ∧ s = I j ∧ Hid (wr.rowIs g1 4 D.nb (fun i => .bool (inL (outL D j) i)) ∧ Ext W1 wr)) (fun s _ => D.no - (intOf s).toNat)
  case atStart => exact ⟨0, Nat.zero_le _, rfl, HM0.out⟩
  case round =>
    clear HM0
    obtain ⟨j, hj, rfl, H⟩ := hrel
    by_cases hlt : j < D.no
    · obtain ⟨bO, oO, hbO, hblO, hcO⟩ := (HD.out.ext H.out.2).outs (by omega)
      have a0 := hcO j hlt
      have hou := OK.out.out j hlt
      obtain ⟨y, hy⟩ : ∃ y : Nat, (D.O j).toNat = y := ⟨_, rfl⟩
      have hy2 : D.O j = (y : Int) := by omega
      have hyn : y < D.nb := by omega
      rw [hy2] at a0
      have hcell := H.out.1.cell hyn
      have hfz := H.out.1.frozen y
      have hlt' : (j : Int) < (D.no : Int) := by omega
      have hyl : (y : Int) < (D.nb : Int) := by omega
      have HR : Hid ((wr.setCell ⟨g1, y, none⟩ (.bool true)).rowIs g1 4 D.nb (fun i => .bool (inL (outL D (j + 1)) i)) ∧ Ext W1 (wr.setCell ⟨g1, y, none⟩ (.bool true))) := ⟨(H.out.1.set y _).congr fun x _ => by
        rw [outL_succ, inL_app, hy]
        by_cases q : x = y
        · subst q; simp
        · rw [if_neg q]; simp [q], H.out.2.set HG1.out.1 _⟩
      clear hcO hou hy hy2
      go_wp2_with fail
      (try rw [← hbO])
      go_roundw
      case rel => exact ⟨j + 1, by omega, by go_num, HR.out⟩
      case measure => simp [intOf]; omega
    · obtain rfl : j = D.no := by omega
      obtain ⟨c0, c1, c2⟩ := HBX.out _ H.out.2
      go_wp2_with (first
        | (go_at_call 31; (with_reducible refine (HND.out _ _ H.out.2 H.out.1).mono ?_); rintro e3 w3 ⟨S, rfl, r3, i3, x3⟩; have R3 := Lib.hid r3; have I3 := Lib.hid i3; have X3 := Lib.hid x3; clear r3 i3 x3)
        | (go_at_call 30; (with_reducible refine (HLS.out _ S R3.out).mono ?_); rintro e4 w4 hr; obtain ⟨AK, ck, he, o4, x4⟩ := hr; rw [HKP.out S I3.out] at he o4; subst he; have OK4 := Lib.hid o4.rl; have HKN : Hid (∀ b o, AK = some ⟨b, o, none⟩ → W1.heap.size ≤ b) := (fun b o q => Nat.le_trans X3.out.size (o4.blk b o q).1); have X4 := Lib.hid (X3.out.trans x4); obtain ⟨d0, d1, d2⟩ := HBX.out _ X4.out; clear o4 x4))
      clear c0 c1 c2 H R3 I3 X3 HND HLS HKP hmk
      have HKA : Hid (∀ x j, x < D.nb → keepP D x = true → (D.B x).k ≠ 0 → j < (D.B x).n → keepP D ((D.B x).a j).toNat = true) := fun x j hx hp hk hj => keep_arg hx hp hk hj
      have HKO : Hid (∀ j, j < D.no → keepP D (D.O j).toNat = true) := fun j hj => keep_out hj
      generalize keepP D = P at *
      obtain ⟨nk, hnk⟩ : ∃ nk, (mkL D.nb P).length = nk := ⟨_, rfl⟩
      have hkn : nk ≤ D.nb := by rw [← hnk, mkL_len]; exact cnt_le _ _
      have HNK := Lib.hid hnk
      rw [hnk]
      obtain ⟨g5, hg5⟩ : ∃ g5, w4.heap.size = g5 := ⟨_, rfl⟩
      have HM2 : Hid ((w4.alloc (.cells (madeCells #[I 0] D.nb) 3)).rowIs g5 3 D.nb (fun i => I (numJ P 0 i)) ∧ Ext w4 (w4.alloc (.cells (madeCells #[I 0] D.nb) 3))) :=
        ⟨(rowIs_made' w4 (I 0) D.nb 3 hg5.symm).congr fun i _ => by unfold numJ; rw [if_neg (fun h => by omega)], Ext.alloc _ _⟩
      have HG5 : Hid (w4.heap.size ≤ g5) := by show _ ≤ _; omega
      clear d0 d1 d2
      obtain ⟨e0, e1, e2⟩ := HBX.out _ X4.out
      go_wp2_with fail
      (try rw [hg5])
      clear e0 e1 e2 hmk2
      go_loopw [45] (fun s wr => ∃ k : Nat, k ≤ nk ∧ s = I k ∧ Hid (wr.rowIs g5 3 D.nb (fun i => I (numJ P k i)) ∧ Ext w4 wr)) (fun s _ => nk - (intOf s).toNat)
      case atStart => exact ⟨0, Nat.zero_le _, rfl, HM2.out⟩
      case round =>
        clear HM2
        obtain ⟨k, hk, rfl, H⟩ := hrel
        by_cases hlt : k < nk
        · obtain ⟨bK, oK, hbK, hblK, hcK⟩ := (OK4.out.ext H.out.2).1 (by rw [hnk]; omega)
          have xK := hcK k (by rw [hnk]; exact hlt)
          have hpl := mkL_plc (n := D.nb) (p := P) (j := k) (by rw [hnk]; exact hlt)
          have HPU : Hid (∀ i, i < D.nb → (if i = (mkL D.nb P).getD k 0 then (k : Int) else numJ P k i) = numJ P (k + 1) i) := fun i hi => numJ_put (by rw [hnk]; exact hlt) hi
          obtain ⟨x, hxd⟩ : ∃ x, (mkL D.nb P).getD k 0 = x := ⟨_, rfl⟩
          simp only [hxd] at xK hpl HPU
          have hcell := H.out.1.cell hpl.1
          have hfz := H.out.1.frozen x
          have hlt' : (k : Int) < (nk : Int) := by omega
          have hxl : (x : Int) < (D.nb : Int) := by omega
          have HR : Hid ((wr.setCell ⟨g5, x, none⟩ (I k)).rowIs g5 3 D.nb (fun i => I (numJ P (k + 1) i)) ∧ Ext w4 (wr.setCell ⟨g5, x, none⟩ (I k))) := ⟨(H.out.1.set x _).congr fun y hy => by
            rw [← HPU.out y hy]
            by_cases q : y = x
            · rw [if_pos q, if_pos q]
            · rw [if_neg q, if_neg q], H.out.2.set HG5.out _⟩
          clear hcK hpl hxd
          generalize numJ P k x = old at *
          go_wp2_with fail
          (try rw [← hbK])
          go_roundw
          case rel => exact ⟨k + 1, by omega, by go_num, HR.out⟩
          case measure => simp [intOf]; omega
        · obtain rfl : k = nk := by omega
          have HX4 := Lib.hid (X4.out.trans H.out.2)
          have HO5 := Lib.hid (OK4.out.ext H.out.2)
          have HRW : Hid (wr.rowIs g5 3 D.nb (fun i => I (numJ P k i))) := H.out.1
          obtain ⟨e0, e1, e2⟩ := HBX.out _ HX4.out
          have HPO : Hid (PoA wr p.AI D) := (HD.out.ext HX4.out).ports
          have HNI : Hid (p.AI = none → p.cI = 0) := HD.out.nI
          have HOP : Hid (OwP (wr.alloc (.cells #[] 58)) wr.heap.size (some ⟨wr.heap.size, 0, none⟩) 0 D 0) := World.ownsRow_made wr #[] 0 (Nat.le_refl _) (Nat.zero_le _) rfl
          clear H
          obtain ⟨wa, hwa⟩ : ∃ wa, wa = wr := ⟨_, rfl⟩
          subst hwa
          have hwal : w.heap.size < wa.heap.size := by have := HX4.out.size; have := HG1.out.2; omega
          have hwan : ¬ w.heap.size = wa.heap.size := by omega
          go_wp2_with (at_builtin; refine appP rfl _ _ rfl wa.heap.size (some ⟨wa.heap.size, 0, none⟩) 0 D rfl HOP.out _ p.cI rfl (HPO.out.ext (Ext.alloc _ _)) HNI.out (by omega) (by simp) ?_; intro AI cI w5 hown hgrow; have O5 := Lib.hid hown; have X5 := Lib.hid (Below.grown (Ext.alloc wa _) hgrow (by simp) (fun k hk => by simp [Value.ownBlock] at hk; omega)); clear hown hgrow)
          clear e0 e1 e2
          obtain ⟨W5, hW5⟩ : ∃ W5, W5 = w5.alloc (.cells #[.slice AI D.ni cI, .slice none 0 0, .slice none 0 0] 26) := ⟨_, rfl⟩
          obtain ⟨go, hgo⟩ : ∃ go, w5.heap.size = go := ⟨_, rfl⟩
          have hbx : Bx W5 go (.slice AI D.ni cI) (.slice none 0 0) (.slice none 0 0) := by rw [hW5, ← hgo]; exact Bx.new _ _ _ _ _
          have hs5 : W5.heap.size = go + 1 := by rw [hW5, ← hgo]; simp
          obtain ⟨DD, hDD⟩ : ∃ DD : Dia, DD = { prD D P with no := 0 } := ⟨_, rfl⟩
          have HDB : Hid (∀ j, DD.B j = pbk D P ((mkL D.nb P).getD j 0)) := fun j => by rw [hDD]; rfl
          have HDD := Lib.hid hDD
          have HDN : Hid (DD.nb = k ∧ DD.ni = D.ni ∧ DD.no = 0 ∧ DD.P = D.P) := ⟨by rw [hDD]; exact hnk, by rw [hDD]; rfl, by rw [hDD], by rw [hDD]; rfl⟩
          have HM3 : Hid (PrM w5 W5 W5 go DD AI cI none 0 (fun _ => none) (fun _ => 0) none 0 0 ∧ W5.frozen? ⟨go, 2, none⟩ = false) := by
            obtain ⟨⟨b0, b1, b2⟩, bf⟩ := hbx
            exact ⟨⟨by rw [hW5]; exact Ext.alloc _ _, by omega, by omega, Nat.le_refl _, fun _ _ _ => rfl, by rw [HDN.out.2.1]; exact b0, b1, by rw [HDN.out.2.2.1]; exact b2, bf 1, OwB.nil _ _ _ _, fun k hk => absurd hk (by omega)⟩, bf 2⟩
          have HP5 : Hid (PoA W5 AI D ∧ (AI = none → cI = 0) ∧ ∀ b o, AI = some ⟨b, o, none⟩ → b ≠ go ∧ W1.heap.size ≤ b) := ⟨by
              have := O5.out.po; rw [hW5]; exact this.ext (Ext.alloc _ _), O5.out.len0, fun b o q => by have := O5.out.blk b o q; have := HX4.out.size; omega⟩
          have HXX : Hid (Ext W1 w5) := HX4.out.trans X5.out
          have HR5 : Hid (w5.rowIs g5 3 D.nb (fun i => I (numJ P k i))) := HRW.out.of_block (X5.out.block g5 HRW.out.lt)
          have HK5 := Lib.hid (HO5.out.ext X5.out)
          have HGO : Hid (w5.heap.size = go ∧ W5.heap.size = go + 1) := ⟨hgo, hs5⟩
          have HW5 := Lib.hid hW5
          clear O5 X5 HOP HPO HNI HRW HO5 HX4 hbx hDD
          (try rw [hgo])
          rw [← HW5.out]
          clear hW5 HW5 hgo hs5
          go_wp2_with fail
          go_loopw [62] (fun s wr => ∃ (i : Nat) (AA : Nat → Option Addr) (cA : Nat → Nat) (A : Option Addr) (c : Nat), i ≤ k ∧ s = I i ∧ Hid (PrM w5 W5 wr go DD AI cI none 0 AA cA A c i ∧ wr.frozen? ⟨go, 2, none⟩ = false)) (fun s _ => k - (intOf s).toNat)
          case atStart => exact ⟨0, _, _, none, 0, Nat.zero_le _, rfl, HM3.out.1, HM3.out.2⟩
          case round =>
            clear HM3
            obtain ⟨i, AA, cA, A, c, hi, rfl, HF⟩ := hrel
            have H : Hid (PrM w5 W5 wr go DD AI cI none 0 AA cA A c i) := HF.out.1
            obtain ⟨wo, hwo⟩ : ∃ wo, wo = wr := ⟨_, rfl⟩
            subst hwo
            by_cases hlt : i < k
            · obtain ⟨bK, oK, hbK, hblK, hcK⟩ := (HK5.out.ext H.out.ext).1 (by rw [HNK.out]; omega)
              have xK := hcK i (by rw [HNK.out]; exact hlt)
              have hpl := mkL_plc (n := D.nb) (p := P) (j := i) (by rw [HNK.out]; exact hlt)
              obtain ⟨x, hxd⟩ : ∃ x, (mkL D.nb P).getD i 0 = x := ⟨_, rfl⟩
              simp only [hxd] at xK hpl
              have hxn := hpl.1
              have hXo := HXX.out.trans H.out.ext
              have dd := HD.out.ext hXo
              obtain ⟨b1, o1, hb1, hbl1, hc1⟩ := dd.blocks (by omega)
              obtain ⟨x0, x1, x2, x3, x4, x5⟩ := hc1 x hxn
              obtain ⟨c0, c1, c2⟩ := HBX.out _ hXo
              have hilt : (i : Int) < (k : Int) := by omega
              have hxl : (x : Int) < (D.nb : Int) := by omega
              have hgl : go < wo.heap.size := by have := H.out.sz; have := H.out.lt; omega
              have hc0g := H.out.c1
              have hn2 := (OK.out.toWF.ns2 hxn).2
              obtain ⟨W6, hW6⟩ : ∃ W6, W6 = wo.alloc (.cells #[I (D.B x).k, .slice (p.AA x) (D.B x).n (p.cA x), I (D.B x).vn, I (D.B x).ve, I (D.B x).un, I (D.B x).ue] 42) := ⟨_, rfl⟩
              have hE6 : Ext wo W6 := by rw [hW6]; exact Ext.alloc _ _
              have HE6 := Lib.hid hE6
              have HBB : Hid (∀ w', Ext W6 w' → w'.cell? ⟨wo.heap.size, 0, none⟩ = some (I (D.B x).k) ∧ w'.cell? ⟨wo.heap.size, 1, none⟩ = some (.slice (p.AA x) (D.B x).n (p.cA x)) ∧ w'.cell? ⟨wo.heap.size, 2, none⟩ = some (I (D.B x).vn) ∧ w'.cell? ⟨wo.heap.size, 3, none⟩ = some (I (D.B x).ve) ∧ w'.cell? ⟨wo.heap.size, 4, none⟩ = some (I (D.B x).un) ∧ w'.cell? ⟨wo.heap.size, 5, none⟩ = some (I (D.B x).ue)) := fun w' e => by
                rw [hW6] at e
                obtain ⟨z0, z1, z2, z3, z4, z5, _, _⟩ := bx6 e
                exact ⟨z0, z1, z2, z3, z4, z5⟩
              have HC1 : Hid (∀ w', Ext W6 w' → w'.cell? ⟨go, 1, none⟩ = some (.slice A i c)) := fun w' e => ((hE6.trans e).old.1 _ _ hgl).trans hc0g
              have hsz6 : W6.heap.size = wo.heap.size + 1 := by rw [hW6]; simp
              have HOW : Hid (OwL (W6.alloc (.cells #[] 3)) W6.heap.size (some ⟨W6.heap.size, 0, none⟩) 0 []) := World.ownsRow_made W6 #[] 0 (Nat.le_refl _) (Nat.zero_le _) rfl
              obtain ⟨Va, hVa⟩ : ∃ Va, Va = (List.range (D.B x).n).map fun j => ((D.B x).a j).toNat := ⟨_, rfl⟩
              have hVl : Va.length = (D.B x).n := by rw [hVa]; simp
              have hVn : ([] ++ Va).length = (D.B x).n := by rw [List.nil_append]; exact hVl
              have hVf : ∀ j, j < (D.B x).n → (D.B x).a j = ((Va.getD j 0 : Nat) : Int) := fun j hj => by
                have := (OK.out.toWF.arg x hxn j hj).1
                rw [hVa]
                simp [List.getD, hj]; omega
              have HVF := Lib.hid hVf
              have HAR : Hid (Ri (W6.alloc (.cells #[] 3)) (p.AA x) (D.B x).n (D.B x).a ∧ (p.AA x = none → p.cA x = 0)) := ⟨(dd.args x hxn).1.ext (hE6.trans (Ext.alloc _ _)), dd.nA x hxn⟩
              have HBI : Hid (DD.B i = pbk D P x) := by show _ = _; rw [HDB.out, hxd]
              have hbk := pbk_k D P x
              have HBC : Hid (∀ Ai ci, bc1 DD ⟨none, 0, none, 0, none, 0, (fun q => if q = i then Ai else AA q), (fun q => if q = i then ci else cA q)⟩ i = [I (D.B x).k, .slice Ai (D.B x).n ci, I (D.B x).vn, I (D.B x).ve, I (D.B x).un, I (D.B x).ue]) := fun Ai ci => by
                unfold bc1
                rw [HBI.out, hbk.1, hbk.2.1, hbk.2.2.1, hbk.2.2.2.1, hbk.2.2.2.2.1, hbk.2.2.2.2.2]
                simp only [if_true]
              have HOB : Hid (∀ Ai ci w', Ext wo w' → OwB w' W5.heap.size A c DD ⟨none, 0, none, 0, none, 0, (fun q => if q = i then Ai else AA q), (fun q => if q = i then ci else cA q)⟩ i) := fun Ai ci w' e => by
                have := H.out.own.ext e
                unfold OwB at this ⊢
                rw [bcs_congr (q := ⟨none, 0, none, 0, none, 0, AA, cA⟩) fun k hk => ⟨if_neg (by omega), if_neg (by omega)⟩]
                exact this
              have HPX := Lib.hid hpl.2.1
              obtain ⟨z0, z1, z2, z3, z4, z5⟩ := HBB.out _ (Ext.refl _)
              have h6a : wo.heap.size < W6.heap.size := by omega
              have h6b : ¬ wo.heap.size = W6.heap.size := by omega
              have HZ7 : Hid (wo.heap.size ≤ W6.heap.size) := by show _ ≤ _; omega
              clear hcK hpl hc1 dd hE6 hXo hVa hVf hbk hsz6
              go_upto_region 19 with fail
              rw [← hW6]; clear hW6
              clear c0 c1 c2 x0 x1 x2 x3 x4 x5
              go_upto_region 20 with (at_builtin; refine appM rfl _ _ rfl W6.heap.size (some ⟨W6.heap.size, 0, none⟩) 0 [] rfl HOW.out _ (D.B x).n (p.cA x) (D.B x).a rfl HAR.out.1 HAR.out.2 Va hVl HVF.out (by simp; omega) (by simp) ?_; intro B e w7 hown hgrow hat; rw [hVn]; have X7 : Hid (Ext W6 w7) := (Below.grown (Ext.alloc W6 _) hgrow (by simp) (fun k hk => by simp [Value.ownBlock] at hk; omega)); have HAL := Lib.hid (ArL.of X7.out hown hVn (by rw [List.nil_append]; exact HVF.out)); have HR0 : Hid ((B = none → e = 0) ∧ ∀ b o, B = some ⟨b, o, none⟩ → W6.heap.size ≤ b ∧ b < w7.heap.size) := ⟨hown.rl.2, hown.blk⟩; clear hown hgrow hat)
              clear z0 z1 z2 z3 z4 z5
              (try rw [← hb1])
              (try rw [← hbK])
              clear hb1 hbK xK
              obtain ⟨z0, z1, z2, z3, z4, z5⟩ := HBB.out _ X7.out
              by_cases hk0 : (D.B x).k = 0
              · have g0 : ((D.B x).k != 0) = false := by rw [hk0]; rfl
                have HRA : Hid (Ri w7 B (DD.B i).n (DD.B i).a) := by
                  show Ri _ _ _ _
                  rw [HBI.out, (pbk_k D P x).2.1]
                  have : (pbk D P x).a = (D.B x).a := by unfold pbk; rw [if_pos hk0]
                  rw [this]; exact HAL.out.rii
                have HWC : Hid (Ext W6 w7) := X7.out

                have HWC7 : Hid (w7.heap.size ≤ w7.heap.size) := Nat.le_refl _
                clear hk0 z0 z1 z2 z3 z4 z5
                have hc1 := HC1.out _ HWC.out
                obtain ⟨z0, z1, z2, z3, z4, z5⟩ := HBB.out _ HWC.out
                have hgw : go < w7.heap.size := Nat.lt_of_lt_of_le hgl (HE6.out.trans HWC.out).size
                have hgn : ¬ go = w7.heap.size := by omega
                have hgn2 : ¬ w7.heap.size = go := by omega
                have hwcs := (HE6.out.trans HWC.out).size
                have hsz := H.out.sz
                go_wp2_with (at_builtin; refine appB rfl _ _ rfl W5.heap.size A c DD ⟨none, 0, none, 0, none, 0, (fun q => if q = i then B else AA q), (fun q => if q = i then e else cA q)⟩ i rfl (HOB.out B e _ (HE6.out.trans (HWC.out.trans (Ext.alloc _ _)))) _ _ rfl (by intro j u hj; rw [HBC.out B e] at hj; exact news6' rfl j u hj) (by omega) (by simp; omega) ?_; intro g cap w9 hown hgrow hat hltg; have ST := Lib.hid (H.out.step (HE6.out.trans (HWC.out.trans (Ext.alloc _ _))) B e hown hgrow hat (HRA.out.ext (Ext.alloc _ _)) HR0.out.1 (fun b o q => by have h1 := HR0.out.2 b o q; have h2 := HZ7.out; have h3 := HWC7.out; simp; omega)); have f1 := ST.out.2.1; have f2 := ST.out.2.2 1 _ hc0g; have HF9 : Hid (w9.frozen? ⟨go, 2, none⟩ = false) := (by show _ = _; rw [fz_keep 2 (HE6.out.trans (HWC.out.trans (Ext.alloc _ _))) hgrow hgl (fun q => by have h1 := (H.out.own.lt go q.symm).1; have h2 := HGO.out.2; omega)]; exact HF.out.2); clear hown hgrow hat hltg)
                go_roundw
                case rel => exact ⟨i + 1, _, _, some ⟨g, 0, none⟩, cap, by omega, by go_num, ST.out.1, by rw [World.frozen?_setCell]; exact HF9.out⟩
                case measure => simp [intOf]; omega
              · have g0 : ((D.B x).k != 0) = true := by simpa using hk0
                have HKY : Hid (∀ j, j < (D.B x).n → ∃ y : Nat, (D.B x).a j = (y : Int) ∧ y < D.nb ∧ numJ P k y = rk P (D.B x).a j) := fun j hj => by
                  have h := OK.out.toWF.arg x hxn j hj
                  have hcb : cntB D (D.B x) = D.nb := by unfold cntB; rw [if_neg hk0]
                  rw [hcb] at h
                  refine ⟨((D.B x).a j).toNat, by omega, by omega, ?_⟩
                  have := numJ_end (n := D.nb) (P := P) (i := ((D.B x).a j).toNat) (by omega) (HKA.out x j hxn HPX.out hk0 hj)
                  rw [HNK.out] at this
                  rw [this]; rfl
                have HPB : Hid ((pbk D P x).a = rk P (D.B x).a) := by show _ = _; unfold pbk; rw [if_neg hk0]
                have HRN : Hid (∀ w', Ext w5 w' → w'.rowIs g5 3 D.nb (fun i => I (numJ P k i))) := fun w' e => HR5.out.ext e
                have HA0 : Hid (ArL W6 w7 B (D.B x).n (fun j => if j < 0 then rk P (D.B x).a j else (D.B x).a j)) := HAL.out.congr fun j _ => (if_neg (by omega)).symm
                clear hk0 z0 z1 z2 z3 z4 z5
                obtain ⟨z0, z1, z2, z3, z4, z5⟩ := HBB.out _ X7.out
                go_wp2_with fail
                clear z0 z1 z2 z3 z4 z5
                go_loopw [80] (fun s wy => ∃ q : Nat, q ≤ (D.B x).n ∧ s = I q ∧ Hid (ArL W6 wy B (D.B x).n (fun j => if j < q then rk P (D.B x).a j else (D.B x).a j) ∧ w7.heap.size ≤ wy.heap.size)) (fun s _ => (D.B x).n - (intOf s).toNat)
                case atStart => exact ⟨0, Nat.zero_le _, rfl, HA0.out, Nat.le_refl _⟩
                case round =>
                  clear HA0
                  obtain ⟨q, hq, rfl, HQ⟩ := hrel
                  by_cases hlq : q < (D.B x).n
                  · obtain ⟨gA, rfl, hga, hgal, hgc⟩ := HQ.out.1.ri (by omega)
                    obtain ⟨a0, fz⟩ := hgc q hlq
                    rw [if_neg (by omega)] at a0
                    obtain ⟨y, hy1, hyn, hy2⟩ := HKY.out q hlq
                    rw [hy1] at a0
                    have hrow := HRN.out wr (H.out.ext.trans (HE6.out.trans HQ.out.1.ext))
                    have hn0 := hrow.cell hyn
                    rw [hy2] at hn0
                    have hrl := hrow.lt
                    have hql : (q : Int) < ((D.B x).n : Int) := by omega
                    have hyl : (y : Int) < (D.nb : Int) := by omega
                    have HPU := Lib.hid (HQ.out.1.put hlq (rk P (D.B x).a q))
                    have HCG : Hid (∀ j, j < (D.B x).n → (if j = q then rk P (D.B x).a q else if j < q then rk P (D.B x).a j else (D.B x).a j) = (if j < q + 1 then rk P (D.B x).a j else (D.B x).a j)) := fun j _ => by
                      by_cases e : j = q
                      · subst e; rw [if_pos rfl, if_pos (by omega)]
                      · rw [if_neg e]
                        by_cases e2 : j < q
                        · rw [if_pos e2, if_pos (by omega)]
                        · rw [if_neg e2, if_neg (by omega)]
                    have hszq := HQ.out.2
                    clear hgc hrow hy1 hy2
                    generalize rk P (D.B x).a q = rv at *
                    go_wp2_with fail
                    go_roundw
                    case rel => exact ⟨q + 1, by omega, by go_num, HPU.out.congr HCG.out, by simpa using hszq⟩
                    case measure => simp [intOf]; omega
                  · obtain hqn : q = (D.B x).n := by omega
                    have HRA : Hid (Ri wr B (DD.B i).n (DD.B i).a) := by
                      show Ri _ _ _ _
                      rw [HBI.out, (pbk_k D P x).2.1, HPB.out]
                      exact (HQ.out.1.congr fun j hj => by rw [if_pos (by omega)]).rii
                    have HWC : Hid (Ext W6 wr) := HQ.out.1.ext
                    have HWC7 : Hid (w7.heap.size ≤ wr.heap.size) := HQ.out.2
                    have hqf : ¬ (q : Int) < ((D.B x).n : Int) := by omega
                    clear hqn HQ
                    have hc1 := HC1.out _ HWC.out
                    obtain ⟨z0, z1, z2, z3, z4, z5⟩ := HBB.out _ HWC.out
                    have hgw : go < wr.heap.size := Nat.lt_of_lt_of_le hgl (HE6.out.trans HWC.out).size
                    have hgn : ¬ go = wr.heap.size := by omega
                    have hgn2 : ¬ wr.heap.size = go := by omega
                    have hwcs := (HE6.out.trans HWC.out).size
                    have hsz := H.out.sz
                    go_wp2_with (at_builtin; refine appB rfl _ _ rfl W5.heap.size A c DD ⟨none, 0, none, 0, none, 0, (fun q => if q = i then B else AA q), (fun q => if q = i then e else cA q)⟩ i rfl (HOB.out B e _ (HE6.out.trans (HWC.out.trans (Ext.alloc _ _)))) _ _ rfl (by intro j u hj; rw [HBC.out B e] at hj; exact news6' rfl j u hj) (by omega) (by simp; omega) ?_; intro g cap w9 hown hgrow hat hltg; have ST := Lib.hid (H.out.step (HE6.out.trans (HWC.out.trans (Ext.alloc _ _))) B e hown hgrow hat (HRA.out.ext (Ext.alloc _ _)) HR0.out.1 (fun b o q => by have h1 := HR0.out.2 b o q; have h2 := HZ7.out; have h3 := HWC7.out; simp; omega)); have f1 := ST.out.2.1; have f2 := ST.out.2.2 1 _ hc0g; have HF9 : Hid (w9.frozen? ⟨go, 2, none⟩ = false) := (by show _ = _; rw [fz_keep 2 (HE6.out.trans (HWC.out.trans (Ext.alloc _ _))) hgrow hgl (fun q => by have h1 := (H.out.own.lt go q.symm).1; have h2 := HGO.out.2; omega)]; exact HF.out.2); clear hown hgrow hat hltg)
                    go_roundw
                    case rel => exact ⟨i + 1, _, _, some ⟨g, 0, none⟩, cap, by omega, by go_num, ST.out.1, by rw [World.frozen?_setCell]; exact HF9.out⟩
                    case measure => simp [intOf]; omega
            · obtain rfl : i = k := by omega
              have hgl : go < wo.heap.size := by have := H.out.sz; have := H.out.lt; omega
              have HP0 : Hid (PoM wo wo go (.slice AI D.ni cI) (.slice A i c) none 0 (outK D P 0) ∧ Ext w5 wo) :=
                ⟨⟨⟨rfl, rfl, rfl, Nat.le_refl _, fun _ _ _ => rfl⟩, hgl, by have := H.out.c0; rw [HDN.out.2.1] at this; exact this, H.out.c1, by have := H.out.c2; rw [HDN.out.2.2.1] at this; exact this, HF.out.2, OwL.nil _ _⟩, H.out.ext⟩
              obtain ⟨c0, c1, c2⟩ := HBX.out _ (HXX.out.trans H.out.ext)
              have HGL := Lib.hid hgl
              clear hgl
              go_wp2_with fail
              clear c0 c1 c2
              go_loopw [110] (fun s wy => ∃ (j : Nat) (A2 : Option Addr) (c2 : Nat), j ≤ D.no ∧ s = I j ∧ Hid (PoM wo wy go (.slice AI D.ni cI) (.slice A i c) A2 c2 (outK D P j) ∧ Ext w5 wy)) (fun s _ => D.no - (intOf s).toNat)
              case atStart => exact ⟨0, none, 0, Nat.zero_le _, rfl, HP0.out⟩
              case round =>
                clear HP0
                obtain ⟨j, A2, c2, hj, rfl, HO⟩ := hrel
                by_cases hlo : j < D.no
                · have hXw := HXX.out.trans HO.out.2
                  obtain ⟨bO, oO, hbO, hblO, hcO⟩ := (HD.out.ext hXw).outs (by omega)
                  have a0 := hcO j hlo
                  have hou := OK.out.out j hlo
                  obtain ⟨y, hy⟩ : ∃ y : Nat, (D.O j).toNat = y := ⟨_, rfl⟩
                  have hy2 : D.O j = (y : Int) := by omega
                  have hyn : y < D.nb := by omega
                  rw [hy2] at a0
                  have hrow := HR5.out.ext HO.out.2
                  have hn0 := hrow.cell hyn
                  have hnum := numJ_end (n := D.nb) (P := P) hyn (by have := HKO.out j hlo; rw [hy] at this; exact this)
                  rw [HNK.out] at hnum
                  rw [hnum] at hn0
                  have hrl := hrow.lt
                  have hgw : go < wr.heap.size := Nat.lt_of_lt_of_le HO.out.1.lt HO.out.1.gr.size
                  have hgn : ¬ go = wr.heap.size := by omega
                  have hgn2 : ¬ wr.heap.size = go := by omega
                  have hg5n : ¬ g5 = wr.heap.size := by omega
                  have q2 := HO.out.1.c2
                  have HOWN := Lib.hid HO.out.1.own
                  have hlt' : (j : Int) < (D.no : Int) := by omega
                  have hyl : (y : Int) < (D.nb : Int) := by omega
                  have HSU : Hid (outK D P (j + 1) = outK D P j ++ [cnt y P]) := by show _ = _; rw [outK_succ, hy]
                  have hwos := HO.out.1.gr.size
                  clear hcO hou hy hy2 hrow hnum hXw
                  generalize hcv : cnt y P = cv at *
                  have hLl : (outK D P j).length ≤ 16 := by rw [outK_len]; omega
                  go_upto_region 31 with fail
                  go_region_law (refine appL_step rfl _ _ rfl wo.heap.size A2 c2 (outK D P j) rfl (HOWN.out.ext (by (with_reducible (repeat (first | exact Ext.refl _ | assumption | (refine Ext.toSet ?_ (by omega)) | refine Ext.toAlloc ?_ | refine Ext.toDrew ?_ | refine Ext.toDrewN ?_ | refine Ext.trans ?_ (by assumption)))); (first | done | fail "no"))) _ _ cv rfl (by go_simp) (by omega) (by simp; omega) ?_; intro g cap w9 hown hgrow hat hltg; have ST := Lib.hid (HO.out.1.step (w' := w9) (show Ext wr _ from (by (with_reducible (repeat (first | exact Ext.refl _ | assumption | (refine Ext.toSet ?_ (by omega)) | refine Ext.toAlloc ?_ | refine Ext.toDrew ?_ | refine Ext.toDrewN ?_ | refine Ext.trans ?_ (by assumption)))); (first | done | fail "no"))) hown hgrow); have HX9 : Hid (Ext w5 w9) := (Below.grown (HO.out.2.trans (show Ext wr _ from (by (with_reducible (repeat (first | exact Ext.refl _ | assumption | (refine Ext.toSet ?_ (by omega)) | refine Ext.toAlloc ?_ | refine Ext.toDrew ?_ | refine Ext.toDrewN ?_ | refine Ext.trans ?_ (by assumption)))); (first | done | fail "no")))) hgrow (HO.out.2.trans (show Ext wr _ from (by (with_reducible (repeat (first | exact Ext.refl _ | assumption | (refine Ext.toSet ?_ (by omega)) | refine Ext.toAlloc ?_ | refine Ext.toDrew ?_ | refine Ext.toDrewN ?_ | refine Ext.trans ?_ (by assumption)))); (first | done | fail "no")))).size (fun k hk => by have h1 := (HOWN.out.lt k hk).1; have h2 := H.out.ext.size; omega)); have f1 := ST.out.2.2; have f2 := ST.out.2.1; clear hown hgrow hat hltg)
                  all_goals
                    go_wp2_with fail
                    (try rw [← hbO])
                    go_roundw
                    case rel => exact ⟨j + 1, _, _, by omega, by go_num, by rw [HSU.out]; have h9 := ST.out.1; rw [List.length_append] at h9; exact h9, HX9.out.set (show w5.heap.size ≤ go by rw [HGO.out.1]; exact Nat.le_refl _) _⟩
                    case measure => simp [intOf]; omega
                · obtain rfl : j = D.no := by omega
                  have hw1 := HXX.out.size
                  have hgo1 := HGO.out.1
                  have hgo2 := HGO.out.2
                  have hg12 := HG1.out.2
                  have hwos := H.out.sz
                  have hDl : DD.nb = i := HDN.out.1
                  have hH : PrM w5 W5 wo go DD AI cI none 0 AA cA A c DD.nb := by rw [hDl]; exact H.out
                  have d6 : Dm wo DD ⟨AI, cI, A, c, none, 0, AA, cA⟩ := hH.dm (fun hn => HP5.out.1 (by have := HDN.out.2.1; omega) |> fun h => by rw [HDN.out.2.1, HDN.out.2.2.2]; exact h) HP5.out.2.1 (fun b o q => (HP5.out.2.2 b o q).1) (fun hn => by have := HDN.out.2.2.1; omega) (fun _ => rfl) (fun b o q => by cases q)
                    (by rw [HDN.out.2.1]; unfold maxLen; omega) (by rw [hDl]; unfold maxLen; omega) (by rw [HDN.out.2.2.1]; unfold maxLen; omega) (fun q hq => by
                      rw [HDB.out, (pbk_k D P _).2.1]
                      have hx := (mkL_plc (n := D.nb) (p := P) (j := q) (by rw [HNK.out]; omega)).1
                      have := (OK.out.toWF.ns2 hx).2
                      unfold maxLen; omega)
                  have hgr := HO.out.1.gr
                  have hAb : ∀ b o, A = some ⟨b, o, none⟩ → W5.heap.size ≤ b := fun b o q => (H.out.own.lt b (by rw [q]; rfl)).1
                  have hA2b : ∀ b o, A2 = some ⟨b, o, none⟩ → wo.heap.size ≤ b := fun b o q => (HO.out.1.own.lt b (by rw [q]; rfl)).1
                  have hAAb : ∀ q, q < i → ∀ b o, AA q = some ⟨b, o, none⟩ → W5.heap.size ≤ b := fun q hq b o hb => ((H.out.arg q hq).2.2 b o hb).2.1
                  have d7 : Dm wr DD ⟨AI, cI, A, c, none, 0, AA, cA⟩ := d6.off hgr (fun b o q => (HP5.out.2.2 b o q).1) (fun b o q => by have := hAb b o q; omega) (fun b o q => by cases q) (fun q hq b o hb => by have := hAAb q (by omega) b o hb; omega)
                  have hou : Ri wr A2 (prD D P).no (prD D P).O := by
                    have := HO.out.1.own.ri
                    rw [outK_len] at this
                    exact this.congr fun q hq => outK_get D P hq
                  have hlo : (prD D P).no ≤ maxLen := by show D.no ≤ _; unfold maxLen; omega
                  have hnO := HO.out.1.own.rl.2
                  rw [HDD.out] at d7
                  have dP : Dm wr (prD D P) ⟨AI, cI, A, c, A2, c2, AA, cA⟩ := ⟨d7.ports, d7.blocks, d7.args, hou, d7.li, d7.lb, hlo, d7.nA, hnO, d7.nI⟩
                  have HDP := Lib.hid dP
                  have q0 := HO.out.1.c0; have q1 := HO.out.1.c1; have q2 := HO.out.1.c2
                  obtain ⟨⟨r0, r1, r2⟩, rf⟩ := HRB.out.ext (HXX.out.trans HO.out.2)
                  have f0 := rf 0; have f1 := rf 1; have f2 := rf 2
                  have hgw : go < wr.heap.size := Nat.lt_of_lt_of_le HO.out.1.lt HO.out.1.gr.size
                  have HBL : Hid ((∀ b o, AI = some ⟨b, o, none⟩ → b ≠ w.heap.size + 1) ∧ (∀ b o, A = some ⟨b, o, none⟩ → b ≠ w.heap.size + 1) ∧ (∀ b o, A2 = some ⟨b, o, none⟩ → b ≠ w.heap.size + 1) ∧ ∀ q, q < i → ∀ b o, AA q = some ⟨b, o, none⟩ → b ≠ w.heap.size + 1) :=
                    ⟨fun b o q => by have := (HP5.out.2.2 b o q).2; omega, fun b o q => by have := hAb b o q; omega, fun b o q => by have := hA2b b o q; omega, fun q hq b o hb => by have := hAAb q hq b o hb; omega⟩
                  have HKB : Hid (∀ b o, AK = some ⟨b, o, none⟩ → b ≠ w.heap.size + 1) := fun b o q => by have := HKN.out b o q; omega
                  clear d6 d7 dP hgr hou hlo hnO hH hDl rf hAb hA2b hAAb hw1 hgo1 hgo2 hg12 hwos
                  go_wp2_with fail
                  refine bodyPost_ret (v := .tuple #[dgv (prD D P) ⟨AI, cI, A, c, A2, c2, AA, cA⟩, .slice AK (mkL D.nb P).length ck]) (by rw [HNK.out]; simp [results, Tryd.results10, go_sem, r0, r1, r2, show (prD D P).nb = i from HNK.out, outK_len, show (prD D P).ni = D.ni from rfl, show (prD D P).no = D.no from rfl]) rfl ⟨_, AK, ck, rfl, HDP.out.off (fr_trans (fr_trans (fr_set _ _ _ _) (fr_set _ _ _ _)) (fr_set _ _ _ _)) HBL.out.1 HBL.out.2.1 HBL.out.2.2.1 ?_, ?_, ?_⟩
                  · exact fun q hq b o hb => HBL.out.2.2.2 q (by have : (prD D P).nb = i := HNK.out; omega) b o hb
                  · refine ⟨(HK5.out.ext HO.out.2).1.blk (fun b o q hb => ?_) (by simp), HK5.out.2⟩
                    have := HKB.out b o q
                    exact ((Below.heap_setCell _ _ _ b (fun q => this q)).trans (Below.heap_setCell _ _ _ b (fun q => this q))).trans (Below.heap_setCell _ _ _ b (fun q => this q))
                  · exact ext_set3 (HE.out.trans (HXX.out.trans HO.out.2)) (by omega) _ _ _
end Go.Proofs.YtgnaljnmjphleaaDoor
