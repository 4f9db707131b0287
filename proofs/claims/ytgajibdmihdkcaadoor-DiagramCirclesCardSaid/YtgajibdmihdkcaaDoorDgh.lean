/- Diagrams: lists of numbers that are made; order, by the code. -/
import Derived.Test.YtgajibdmihdkcaaDoorDgg
import Derived.Deep.OwnRows
namespace Go.Proofs.YtgajibdmihdkcaaDoor
open Go Go.RowKit

theorem infoI : (Tryd.prog.info? 3).map (fun i => (i.zero, i.size, i.bytes)) = some (some (I 0), 1, 8) := by kernel_rfl
theorem infoB : (Tryd.prog.info? 4).map (fun i => (i.zero, i.size, i.bytes)) = some (some (.bool false), 1, 1) := by kernel_rfl
theorem rowIs_made' (w : World) (z : Value) (n : Nat) (t : TypeId) {g : Nat} (hg : g = w.heap.size) : (w.alloc (.cells (madeCells #[z] n) t)).rowIs g t n (fun _ => z) := hg ▸ World.rowIs_made w z n t
theorem _root_.Go.World.rowIs.ext {w w' : World} {b : Nat} {t : TypeId} {n : Nat} {f : Nat → Value} (h : w.rowIs b t n f) (x : Ext w w') : w'.rowIs b t n f := h.of_block (x.block b h.lt)
theorem rb_of_row {w : World} {g n : Nat} {P : Nat → Bool} (h : w.rowIs g 4 n (fun i => .bool (P i))) : Rb w g n P := ⟨h.lt, fun _ hi => h.cell hi⟩

def nI (L : List Nat) : List Value := L.map fun (i : Nat) => I (i : Int)
/-- The slice owns its memory (blocks from base on) and holds the numbers of L. -/
def OwL (w : World) (base : Nat) (A : Option Addr) (c : Nat) (L : List Nat) : Prop := w.ownsRow base 3 1 (.slice A L.length c) L.length (nI L)
theorem OwL.nil (w : World) (base : Nat) : OwL w base none 0 [] := World.ownsRow_nil _ _ _ _
theorem OwL.mono {w : World} {base base' c : Nat} {A : Option Addr} {L : List Nat} (h : OwL w base A c L) (hb : base' ≤ base) : OwL w base' A c L := by
  obtain ⟨hl, h⟩ := h
  refine ⟨hl, ?_⟩
  rcases h with h | ⟨g, cap, cur, h1, h2, h3⟩
  · exact .inl h
  · exact .inr ⟨g, cap, cur, h1, by omega, h3⟩
theorem OwL.lt {w : World} {base c : Nat} {A : Option Addr} {L : List Nat} (h : OwL w base A c L) : ∀ k, (Value.slice A L.length c).ownBlock = some k → base ≤ k ∧ k < w.heap.size := World.ownsRow.lt h
theorem ext_gr {w w' : World} (e : Ext w w') : w.grownBy w' none := ⟨e.os, e.tape, e.output, e.size, fun k hk _ => e.block k hk⟩
theorem OwL.ext {w w' : World} {base c : Nat} {A : Option Addr} {L : List Nat} (h : OwL w base A c L) (e : Ext w w') : OwL w' base A c L :=
  World.ownsRow.kept h (ext_gr e) (by cases (Value.slice A L.length c).ownBlock <;> simp)
theorem OwL.off {w w' : World} {base c g : Nat} {A : Option Addr} {L : List Nat} (h : OwL w base A c L) (e : w.grownBy w' (some g)) (hg : g < base) : OwL w' base A c L := by
  refine World.ownsRow.kept h e ?_
  cases hv : (Value.slice A L.length c).ownBlock with
  | none => simp
  | some k => right; have := (h.lt k hv).1; intro e; injection e with e; omega
theorem OwL.ri {w : World} {base c : Nat} {A : Option Addr} {L : List Nat} (h : OwL w base A c L) : Ri w A L.length (fun i => ((L.getD i 0 : Nat) : Int)) := fun hn => by
  have h' := h
  obtain ⟨_, ⟨e, h0⟩ | ⟨g, cap, cur, e, _⟩⟩ := h'
  · omega
  · injection e with e1 e2 e3
    subst e1
    refine ⟨g, 0, rfl, (h.lt g rfl).2, fun i hi => ?_⟩
    have := World.ownsRow.cellAt h i (by omega)
    rw [Nat.zero_add, this]
    simp [nI, List.getElem?_eq_getElem hi, List.getD]
theorem grow_ext {W w w' : World} {base c : Nat} {A : Option Addr} {L : List Nat} (e : Ext W w) (h : OwL w base A c L) (hb : W.heap.size ≤ base) (hg : w.grownBy w' (Value.slice A L.length c).ownBlock) : Ext W w' :=
  Below.grown e hg e.size (fun k hk => Nat.le_trans hb (h.lt k hk).1)
theorem news1' {w : World} {ad : Addr} {v : Value} (h : w.cell? ad = some v) : ∀ j u, [v][j]? = some u → w.cell? (ad.add j) = some u := by
  intro j u hj
  cases j with
  | zero => simp at hj; subst hj; exact h
  | succ j => simp at hj
theorem appL {ops : Array Oper} {rest : List Oper} {o : Oper} {a : Act} {w : World} {Q : Exit → Act → World → Prop} (hgd : o.guard = none) (s x : Operand) (ho : o.op = .call { callee := .builtin .append, args := #[s, x], argTypes := #[24, 24] })
    (base : Nat) (A : Option Addr) (c : Nat) (L : List Nat) (hs : a.eval s = .slice A L.length c) (hown : OwL w base A c L) (ad : Addr) (cx v : Nat) (hx : a.eval x = .slice (some ad) 1 cx) (hv : w.cell? ad = some (I v))
    (hn : L.length ≤ 1099511627776) (hbase : base ≤ w.heap.size)
    (h : ∀ g cap w', OwL w' base (some ⟨g, 0, none⟩) cap (L ++ [v]) → w.grownBy w' (Value.slice A L.length c).ownBlock → ((Value.slice A L.length c).ownBlock = some g ∨ g = w.heap.size) → g < w'.heap.size →
      wpList Tryd.prog ops Q rest (a.put o.dst (.slice (some ⟨g, 0, none⟩) (L ++ [v]).length cap)) w') : wpList Tryd.prog ops Q (o :: rest) a w := by
  obtain ⟨i, hi, hz, h1, hb⟩ := info_parts infoI
  refine wpList_append_lies w hgd s x _ ho base 3 i _ 1 8 Tryd.underlying24 hi hz h1 hb rfl (by omega) _ L.length _ hs hown ad 1 cx [I v] hx rfl (news1' hv) (by simp [Value.oneCell']) (by omega) (by unfold maxLen; omega) (by omega) hbase w.heap.size rfl ?_
  intro g cap w' h1 h2 h3 h4
  have e : (L ++ [v]).length = L.length + 1 := by simp
  have := h g cap w' (by unfold OwL; rw [e]; unfold nI at *; rw [List.map_append]; exact h1) h2 h3 h4
  rw [e] at this; exact this
def lenV : Value → Nat
  | .slice _ n _ => n
  | _ => 0
/-- A list in new memory. -/
def LsR (L : List Nat) (w : World) (e : Ending) (w' : World) : Prop := ∃ A c, e = .returned (.slice A L.length c) ∧ OwL w' w.heap.size A c L ∧ Ext w w'

/-- What order's loop keeps. -/
structure OrdM (W w : World) (gl : Nat) (D : Dia) (A : Option Addr) (c : Nat) (L : List Nat) : Prop where
  ext : Ext W w
  glz : W.heap.size = gl
  own : OwL w (gl + 1) A c L
  row : w.rowIs gl 4 D.nb (fun i => .bool (inL L i))
  inv : OrdI D L
theorem OrdM.go {W w wa wb : World} {gl g : Nat} {D : Dia} {A : Option Addr} {c cap : Nat} {L : List Nat} {j : Nat} (h : OrdM W w gl D A c L) (hj : j < D.nb) (hf : fstI D.nb (rdy D (inL L)) = j) (hr : rdy D (inL L) j = true)
    (e : Ext w wa) (hown : OwL wb (gl + 1) (some ⟨g, 0, none⟩) cap (L ++ [j])) (hg : wa.grownBy wb (Value.slice A L.length c).ownBlock) :
    wb.cell? ⟨gl, j, none⟩ = some (.bool (inL L j)) ∧ wb.frozen? ⟨gl, j, none⟩ = false ∧ OrdM W (wb.setCell ⟨gl, j, none⟩ (.bool true)) gl D (some ⟨g, 0, none⟩) cap (L ++ [j]) := by
  have ho := h.own.ext e
  have hrow : wb.rowIs gl 4 D.nb (fun i => .bool (inL L i)) := (h.row.ext e).of_block (hg.block gl (h.row.ext e).lt (fun q => by have := (ho.lt gl q.symm).1; omega))
  refine ⟨hrow.cell hj, hrow.frozen j, ?_, h.glz, ?_, ?_, h.inv.app hj hf hr⟩
  · exact (grow_ext (h.ext.trans e) ho (by rw [h.glz]; omega) hg).set (by show _ ≤ gl; rw [h.glz]; omega) _
  · exact hown.off (g := gl) ⟨rfl, rfl, rfl, by simp, fun k _ hk => Below.heap_setCell _ _ _ k (fun q => hk (by simp [q]))⟩ (by omega)
  · refine (hrow.set j (.bool true)).congr fun i hi => ?_
    rw [inL_app]
    by_cases q : i = j
    · subst q; simp
    · simp [q]

set_option maxRecDepth 100000 in
set_option maxHeartbeats 1000000 in
theorem order_any {w : World} {D : Dia} {p : Pl} (d : Dm w D p) (wf : WF D) : Calls Tryd.prog 36 #[dgv D p] w (LsR (ordL D) w) := by
  have hnb := wf.nb
  have hmk := run_make_row' 55 4 (.bool false) 1 Tryd.underlying55 infoB rfl .i64 .i64 D.nb (by omega) (by omega)
  have HBD := Lib.hid (Bd.new w D p 26)
  obtain ⟨W1, hW1⟩ : ∃ W1, W1 = w.alloc (.cells #[.slice p.AI D.ni p.cI, .slice p.AB D.nb p.cB, .slice p.AO D.no p.cO] 26) := ⟨_, rfl⟩
  have hE : Ext w W1 := by rw [hW1]; exact Ext.alloc _ _
  have hz1 : W1.heap.size = w.heap.size + 1 := by rw [hW1]; simp
  rw [← hW1] at HBD
  have HD := Lib.hid d
  have HWF := Lib.hid wf
  have HE := Lib.hid hE
  have HST : Hid (OrdM W1 (W1.alloc (.cells (madeCells #[.bool false] D.nb) 4)) (w.heap.size + 1) D none 0 []) :=
    ⟨Ext.alloc _ _, hz1, OwL.nil _ _, rowIs_made' _ _ _ _ hz1.symm, OrdI.nil D⟩
  rw [hW1] at HST
  clear d wf hE
  go_enter Tryd.func36, Tryd.ntmps36
  go_wp2_with fail
  go_loopw [3] (fun s wr => ∃ A c L, s = .slice A (List.length L) c ∧ Hid (OrdM W1 wr (w.heap.size + 1) D A c L)) (fun s _ => D.nb - lenV s)
  case atStart => exact ⟨none, 0, [], rfl, by rw [hW1]; exact HST⟩
  case round =>
    obtain ⟨A, c, L, rfl, H⟩ := hrel
    have hl := H.out.inv.le
    obtain ⟨c0, c1, c2⟩ := HBD.out.ext H.out.ext
    have HC := Lib.hid (leastReady_any (c := D.nb) (HD.out.ext (HE.out.trans H.out.ext)) HWF.out (rb_of_row H.out.row))
    rcases fstI_cases D.nb (rdy D (inL L)) with ⟨hf, _⟩ | ⟨j, hj, hf, hr, _⟩
    · rw [hf] at HC
      have HF := Lib.hid (H.out.inv.fin hf)
      clear hf
      go_wp2_with (go_at_call 60; refine HC.out.mono ?_; rintro e w1 ⟨rfl, hb1⟩)
      go_ret
      exact ⟨A, c, by rw [HF.out]; rfl, by rw [HF.out]; exact (H.out.own.ext hb1).mono (by omega), HE.out.trans (H.out.ext.trans hb1)⟩
    · rw [hf] at HC
      have HF := Lib.hid hf
      have HR := Lib.hid hr
      have hroom := H.out.inv.room hj hr
      clear hf hr
      have hjl : (j : Int) < (D.nb : Int) := by omega
      go_wp2_with (first
        | (go_at_call 60; refine HC.out.mono ?_; rintro e w1 ⟨rfl, hb1⟩; have hsz1 := hb1.size; have hszr := H.out.ext.size)
        | (at_builtin; refine appL rfl _ _ rfl (w.heap.size + 1 + 1) A c L rfl (H.out.own.ext (hb1.trans (Ext.alloc _ _))) _ _ j rfl (by go_simp) (by omega) (by simp; omega) ?_; intro g cap w2 hown hgrow hat hlt; obtain ⟨q1, q2, q3⟩ := H.out.go hj HF.out HR.out (hb1.trans (Ext.alloc _ _)) hown hgrow; have Q3 := Lib.hid q3; clear q3 hown hgrow hat))
      go_roundw
      case rel => exact ⟨some ⟨g, 0, none⟩, cap, L ++ [j], by simp, Q3⟩
      case measure => simp [lenV]; omega

theorem mkL_t {n : Nat} {q : Nat → Bool} (h : q n = true) : mkL (n + 1) q = mkL n q ++ [n] := by show mkL n q ++ _ = _; rw [if_pos h]
theorem mkL_f {n : Nat} {q : Nat → Bool} (h : q n = false) : mkL (n + 1) q = mkL n q := by show mkL n q ++ _ = _; rw [if_neg (by rw [h]; decide), List.append_nil]
set_option maxRecDepth 100000 in
set_option maxHeartbeats 1000000 in
theorem delays_any {w : World} {D : Dia} {p : Pl} (d : Dm w D p) (hnb : D.nb ≤ 1000000) : Calls Tryd.prog 37 #[dgv D p] w (LsR (delL D) w) := by
  have HBD := Lib.hid (Bd.new w D p 26)
  obtain ⟨W1, hW1⟩ : ∃ W1, W1 = w.alloc (.cells #[.slice p.AI D.ni p.cI, .slice p.AB D.nb p.cB, .slice p.AO D.no p.cO] 26) := ⟨_, rfl⟩
  have hE : Ext w W1 := by rw [hW1]; exact Ext.alloc _ _
  have hz1 : W1.heap.size = w.heap.size + 1 := by rw [hW1]; simp
  rw [← hW1] at HBD
  have HD := Lib.hid d
  have HE := Lib.hid hE
  have HW1 := Lib.hid hW1
  have c012 := HBD.out
  rw [hW1] at c012
  obtain ⟨c0, c1, c2⟩ := c012
  clear d hE hW1
  go_enter Tryd.func37, Tryd.ntmps37
  go_wp2_with fail
  clear c0 c1 c2
  go_loopw [3, 8] (fun s t wr => ∃ A c j, j ≤ D.nb ∧ s = .slice A (mkL j (isD D)).length c ∧ t = I j ∧ Hid (OwL wr (w.heap.size + 1) A c (mkL j (isD D))) ∧ Hid (Ext W1 wr)) (fun _ t _ => D.nb - (intOf t).toNat)
  case atStart => exact ⟨none, 0, 0, Nat.zero_le _, rfl, rfl, OwL.nil _ _, by rw [HW1.out]; exact Ext.refl _⟩
  case round =>
    obtain ⟨A, c, j, hj, rfl, rfl, HO, HX⟩ := hrel
    by_cases hlt : j < D.nb
    · have hlen : (mkL j (isD D)).length ≤ j := by rw [mkL_len]; exact cnt_le _ _
      obtain ⟨c0, c1, c2⟩ := HBD.out.ext HX.out
      have HC := Lib.hid (isDelay_any (HD.out.ext (HE.out.trans HX.out)) j hlt)
      cases hq : isD D j with
      | false =>
        rw [hq] at HC
        have HM := Lib.hid (mkL_f hq)
        clear hq
        go_wp2_with (go_at_call 61; refine HC.out.mono ?_; rintro e w1 ⟨rfl, hb1⟩)
        go_roundw
        case rel => exact ⟨A, c, j + 1, by omega, by rw [HM.out], by go_num, by rw [HM.out]; exact HO.out.ext hb1, HX.out.trans hb1⟩
        case measure => simp [intOf]; omega
      | true =>
        rw [hq] at HC
        have HM := Lib.hid (mkL_t hq)
        clear hq
        have hszr := HX.out.size
        generalize mkL j (isD D) = L at *
        go_wp2_with (first
          | (go_at_call 61; refine HC.out.mono ?_; rintro e w1 ⟨rfl, hb1⟩; have hsz1 := hb1.size)
          | (at_builtin; refine appL rfl _ _ rfl (w.heap.size + 1) A c L rfl (HO.out.ext (hb1.trans (Ext.alloc _ _))) _ _ j rfl (by go_simp) (by omega) (by simp; omega) ?_; intro g cap w2 hown hgrow hat hlt; have G := Lib.hid (grow_ext (HX.out.trans (hb1.trans (Ext.alloc _ _))) (HO.out.ext (hb1.trans (Ext.alloc _ _))) (by omega) hgrow); have O2 := Lib.hid hown; clear hown hgrow hat))
        go_roundw
        case rel => exact ⟨some ⟨g, 0, none⟩, cap, j + 1, by omega, by rw [HM.out]; simp, by go_num, by rw [HM.out]; exact O2.out, G.out⟩
        case measure => simp [intOf]; omega
    · obtain rfl : j = D.nb := by omega
      go_wp2_with fail
      go_ret
      exact ⟨A, c, rfl, HO.out.mono (by omega), HE.out.trans HX.out⟩
end Go.Proofs.YtgajibdmihdkcaaDoor
