/- Curves: checkHalf and Odd by the code. -/
import Derived.Test.YtdcollchhcjaaaaCrx
namespace Go.Proofs.Ytdcollchhcjaaaa
open Go Go.RowKit

/-! ### What is wrong with the points -/
def HfPost (n : Nat) (X Y : Nat → Int) (w : World) (e : Ending) (w' : World) : Prop :=
  ((∃ i, i < n ∧ (X i ≤ 0 ∨ Y i < 0)) ∧ e = .returned (.iface 51 (I 2)) ∧ Ext w w') ∨ ((∀ i, i < n → 0 < X i ∧ 0 ≤ Y i) ∧ e = .returned .nilIface ∧ Ext w w')
set_option maxRecDepth 100000 in
set_option maxHeartbeats 1000000 in
theorem half_in {w : World} {A B : Option Addr} {n c e : Nat} {X Y : Nat → Int} (h0 : 0 < n) (h1 : n ≤ 15) (ra : Ri w A n X) (rb : Ri w B n Y) :
    Calls Try.prog 40 #[.slice A n c, .slice B n e] w (HfPost n X Y w) := by
  obtain ⟨ba, oa, rfl, hba, ca⟩ := ra h0
  obtain ⟨bb, ob, rfl, hbb, cb⟩ := rb h0
  have CA := Lib.hid ca; clear ca ra
  have CB := Lib.hid cb; clear cb rb
  have h15 : ¬ (15 : Int) < (n : Int) := by omega
  have hz : ((n : Int) == 0) = false := by simp; omega
  have hz2 : decide (n = 0) = false := by simp; omega
  go_enter Try.func40, Try.ntmps40
  go_wp2_with fail
  go_loopw [23] (fun s wr => ∃ j : Nat, j ≤ n ∧ s = I j ∧ Ext w wr ∧ Hid (∀ i, i < j → 0 < X i ∧ 0 ≤ Y i)) (fun s _ => n - (intOf s).toNat)
  case atStart => exact ⟨0, Nat.zero_le _, rfl, Ext.refl _, fun i hi => absurd hi (by omega)⟩
  case round =>
    obtain ⟨j, hj, rfl, hb, HG⟩ := hrel
    by_cases hlt : j < n
    · have xa := (hb.old.1 _ _ hba).trans (CA.out j hlt)
      have xb := (hb.old.1 _ _ hbb).trans (CB.out j hlt)
      by_cases q1 : X j ≤ 0
      · have HP := Lib.hid (show ∃ i, i < n ∧ (X i ≤ 0 ∨ Y i < 0) from ⟨j, hlt, .inl q1⟩)
        go_wp2_with fail
        go_ret
        exact .inl ⟨HP.out, rfl, hb⟩
      · by_cases q2 : Y j < 0
        · have HP := Lib.hid (show ∃ i, i < n ∧ (X i ≤ 0 ∨ Y i < 0) from ⟨j, hlt, .inr q2⟩)
          go_wp2_with fail
          go_ret
          exact .inl ⟨HP.out, rfl, hb⟩
        · have HG2 : Hid (∀ i, i < j + 1 → 0 < X i ∧ 0 ≤ Y i) := fun i hi => by
            by_cases h : i = j
            · subst h; exact ⟨by omega, by omega⟩
            · exact HG.out i (by omega)
          go_wp2_with fail
          go_roundw
          case rel => exact ⟨j + 1, by omega, by go_num, hb, HG2⟩
          case measure => simp [intOf]; omega
    · obtain rfl : j = n := by omega
      go_wp2_with fail
      go_ret
      exact .inr ⟨HG.out, rfl, hb⟩
set_option maxRecDepth 100000 in
set_option maxHeartbeats 1000000 in
theorem half_shape {w : World} (A B : Option Addr) (n c m e : Nat) (h : n ≠ m ∨ n = 0) (hn : n ≤ maxLen) (hm : m ≤ maxLen) :
    Calls Try.prog 40 #[.slice A n c, .slice B m e] w fun e' w' => e' = .returned (.iface 51 (I 11)) ∧ Ext w w' := by
  unfold maxLen at hn hm
  by_cases q : n = m
  · subst q
    obtain rfl : n = 0 := by omega
    clear h
    go_enter Try.func40, Try.ntmps40
    go_wp2_with fail
    go_ret
    exact ⟨rfl, Ext.refl _⟩
  · clear h
    go_enter Try.func40, Try.ntmps40
    go_wp2_with fail
    go_ret
    exact ⟨rfl, Ext.refl _⟩
set_option maxRecDepth 100000 in
set_option maxHeartbeats 1000000 in
theorem half_large {w : World} (A B : Option Addr) (n c e : Nat) (h : 15 < n) (hn : n ≤ maxLen) :
    Calls Try.prog 40 #[.slice A n c, .slice B n e] w fun e' w' => e' = .returned (.iface 51 (I 4)) ∧ Ext w w' := by
  unfold maxLen at hn
  have hz : ((n : Int) == 0) = false := by simp; omega
  have hz2 : decide (n = 0) = false := by simp; omega
  have h15 : (15 : Int) < (n : Int) := by omega
  go_enter Try.func40, Try.ntmps40
  go_wp2_with fail
  go_ret
  exact ⟨rfl, Ext.refl _⟩

/-! ### The curve that is made -/
/-- What stands after i rounds. -/
def odz (n : Nat) (X : Nat → Int) (i k : Nat) : Int := if k ≤ n + i ∧ n ≤ k + i then od n X k else 0
theorem odz_0 (n : Nat) (X : Nat → Int) : odz n X 0 = fun _ => 0 := by
  funext k; unfold odz od
  by_cases h : k ≤ n + 0 ∧ n ≤ k + 0
  · rw [if_pos h, if_neg (by omega), if_pos (by omega)]
  · rw [if_neg h]
theorem odz_n {n : Nat} {X : Nat → Int} {k : Nat} (h : k < 2 * n + 1) : odz n X n k = od n X k := if_pos (by omega)
theorem odz_step {n i p q : Nat} {X : Nat → Int} (hp : p = n + 1 + i) (hq : q + i + 1 = n) (k : Nat) : (if k = q then -X i else if k = p then X i else odz n X i k) = odz n X (i + 1) k := by
  unfold odz od
  by_cases h1 : k = q
  · subst h1
    rw [if_pos rfl, if_pos (show k ≤ n + (i + 1) ∧ n ≤ k + (i + 1) by omega), if_pos (show k < n by omega), show n - 1 - k = i by omega]
  · rw [if_neg h1]
    by_cases h2 : k = p
    · subst h2
      rw [if_pos rfl, if_pos (show k ≤ n + (i + 1) ∧ n ≤ k + (i + 1) by omega), if_neg (show ¬ k < n by omega), if_neg (show ¬ k = n by omega), show k - n - 1 = i by omega]
    · rw [if_neg h2]
      by_cases h3 : k ≤ n + i ∧ n ≤ k + i
      · rw [if_pos h3, if_pos (show k ≤ n + (i + 1) ∧ n ≤ k + (i + 1) by omega)]
      · rw [if_neg h3, if_neg (show ¬ (k ≤ n + (i + 1) ∧ n ≤ k + (i + 1)) by omega)]
/-- An odd curve that is being made. -/
structure OdSt (Wc w : World) (p gx gy N : Nat) (X Y : Nat → Int) : Prop where
  ext : Ext Wc w
  box : B2 w p (.slice (some ⟨gx, 0, none⟩) N N) (.slice (some ⟨gy, 0, none⟩) N N)
  rx : w.rowIs gx 3 N (fun i => I (X i))
  ry : w.rowIs gy 3 N (fun i => I (Y i))
  far : Wc.heap.size ≤ p ∧ Wc.heap.size ≤ gx ∧ Wc.heap.size ≤ gy ∧ p ≠ gx ∧ p ≠ gy ∧ gx ≠ gy
theorem OdSt.fin {Wc w : World} {p gx gy N : Nat} {X Y : Nat → Int} {v0 v1 : Value} (x : Ext Wc w) (b : B2 w p v0 v1) (rx : w.rowIs gx 3 N (fun i => I (X i))) (ry : w.rowIs gy 3 N (fun i => I (Y i)))
    (far : Wc.heap.size ≤ p ∧ Wc.heap.size ≤ gx ∧ Wc.heap.size ≤ gy ∧ p ≠ gx ∧ p ≠ gy ∧ gx ≠ gy) :
    OdSt Wc ((w.setCell ⟨p, 0, none⟩ (.slice (some ⟨gx, 0, none⟩) N N)).setCell ⟨p, 1, none⟩ (.slice (some ⟨gy, 0, none⟩) N N)) p gx gy N X Y :=
  ⟨(x.set far.1 _).set far.1 _, b.set01 _ _, rx.of_block (box_far _ _ _ _ _ (Ne.symm far.2.2.2.1)), ry.of_block (box_far _ _ _ _ _ (Ne.symm far.2.2.2.2.1)), far⟩
theorem OdSt.to {Wc w w' : World} {p gx gy N : Nat} {X Y : Nat → Int} (h : OdSt Wc w p gx gy N X Y) (x : Ext w w') : OdSt Wc w' p gx gy N X Y :=
  ⟨h.ext.trans x, h.box.ext x, h.rx.ext x, h.ry.ext x, h.far⟩
theorem OdSt.put {Wc w : World} {p gx gy N : Nat} {X Y : Nat → Int} (h : OdSt Wc w p gx gy N X Y) (k : Nat) (a b : Int) :
    OdSt Wc ((w.setCell ⟨gx, k, none⟩ (I a)).setCell ⟨gy, k, none⟩ (I b)) p gx gy N (fun i => if i = k then a else X i) (fun i => if i = k then b else Y i) := by
  obtain ⟨f1, f2, f3, f4, f5, f6⟩ := h.far
  refine ⟨(h.ext.set f2 _).set f3 _, (h.box.grown' (Deep.blk_setCell_other _ ⟨gx, k, none⟩ _ _ f4)).grown' (Deep.blk_setCell_other _ ⟨gy, k, none⟩ _ _ f5), ?_, ?_, h.far⟩
  · refine ((h.rx.set k _).of_block (Deep.blk_setCell_other _ ⟨gy, k, none⟩ _ _ f6)).congr fun i _ => ?_
    by_cases e : i = k <;> simp [e]
  · refine ((h.ry.of_block (Deep.blk_setCell_other _ ⟨gx, k, none⟩ (I a) _ (Ne.symm f6))).set k _).congr fun i _ => ?_
    by_cases e : i = k <;> simp [e]
theorem OdSt.as {Wc w : World} {p gx gy N : Nat} {X Y X' Y' : Nat → Int} (h : OdSt Wc w p gx gy N X Y) (hx : ∀ i, X i = X' i) (hy : ∀ i, Y i = Y' i) : OdSt Wc w p gx gy N X' Y' := by
  rw [show X' = X from (funext hx).symm, show Y' = Y from (funext hy).symm]; exact h
theorem OdSt.asN {Wc w : World} {p gx gy N : Nat} {X Y X' Y' : Nat → Int} (h : OdSt Wc w p gx gy N X Y) (hx : ∀ i, i < N → X i = X' i) (hy : ∀ i, i < N → Y i = Y' i) : OdSt Wc w p gx gy N X' Y' :=
  ⟨h.ext, h.box, h.rx.congr fun i hi => by rw [hx i hi], h.ry.congr fun i hi => by rw [hy i hi], h.far⟩
theorem OdSt.ria {Wc w w' : World} {p gx gy N : Nat} {X Y : Nat → Int} (h : OdSt Wc w p gx gy N X Y) (e : w'.heap[gx]? = w.heap[gx]?) : Ri w' (some ⟨gx, 0, none⟩) N X := fun _ => by
  have r := h.rx.of_block e
  exact ⟨gx, 0, rfl, r.lt, fun i hi => by rw [Nat.zero_add, r.cell hi]⟩
theorem OdSt.rib {Wc w w' : World} {p gx gy N : Nat} {X Y : Nat → Int} (h : OdSt Wc w p gx gy N X Y) (e : w'.heap[gy]? = w.heap[gy]?) : Ri w' (some ⟨gy, 0, none⟩) N Y := fun _ => by
  have r := h.ry.of_block e
  exact ⟨gy, 0, rfl, r.lt, fun i hi => by rw [Nat.zero_add, r.cell hi]⟩

/-- All blocks but two are as they were. -/
def Far2 (a b : Nat) (w w' : World) : Prop := ∀ k, k ≠ a → k ≠ b → w'.heap[k]? = w.heap[k]?
theorem Far2.refl (a b : Nat) (w : World) : Far2 a b w w := fun _ _ _ => rfl
theorem Far2.set0 {a b : Nat} {w w' : World} (h : Far2 a b w w') (i : Nat) (z : Value) : Far2 a b w (w'.setCell ⟨a, i, none⟩ z) := fun k h1 h2 => (Deep.blk_setCell_other _ ⟨a, i, none⟩ z k h1).trans (h k h1 h2)
theorem Far2.set1 {a b : Nat} {w w' : World} (h : Far2 a b w w') (i : Nat) (z : Value) : Far2 a b w (w'.setCell ⟨b, i, none⟩ z) := fun k h1 h2 => (Deep.blk_setCell_other _ ⟨b, i, none⟩ z k h2).trans (h k h1 h2)
theorem Far2.drew {a b : Nat} {w w' : World} (h : Far2 a b w w') : Far2 a b w w'.drew := h
theorem Far2.cell {a b : Nat} {w w' : World} (h : Far2 a b w w') {p : Addr} {v : Value} (hc : w.cell? p = some v) (h1 : p.block ≠ a) (h2 : p.block ≠ b) : w'.cell? p = some v := (World.cell?_of_block (h _ h1 h2)).trans hc

/-- Odd's answer for points that are not refused at once. -/
def OdPost (n : Nat) (X Y : Nat → Int) (e0 : Value) (er : Int → Value) (w : World) (e : Ending) (w' : World) : Prop :=
  (chk (2 * n + 1) (2 * n + 1) (od n X) (od n Y) = 0 ∧ CvOk (2 * n + 1) (od n X) (od n Y) e0 w e w') ∨
  (chk (2 * n + 1) (2 * n + 1) (od n X) (od n Y) ≠ 0 ∧ e = .returned (.tuple #[cv none 0 0 none 0 0, er (chk (2 * n + 1) (2 * n + 1) (od n X) (od n Y))]) ∧ Ext w w')

set_option maxRecDepth 100000 in
set_option maxHeartbeats 4000000 in
theorem odd_in {w : World} {ba oa c bb ob e n : Nat} {X Y : Nat → Int} (r : Cur w ba oa bb ob n X Y) (h0 : 0 < n) (h1 : n ≤ 15) (hg : ∀ i, i < n → 0 < X i ∧ 0 ≤ Y i)
    (bx : ∀ i, i < n → X i ≤ 9223372036854775807 ∧ Y i ≤ 9223372036854775807) :
    Calls Try.prog 27 #[.slice (some ⟨ba, oa, none⟩) n c, .slice (some ⟨bb, ob, none⟩) n e] w (OdPost n X Y .nilIface (fun k => .iface 51 (I k)) w) := by
  have HK : Hid (∀ w', Ext w w' → Calls Try.prog 40 #[.slice (some ⟨ba, oa, none⟩) n c, .slice (some ⟨bb, ob, none⟩) n e] w' fun e' w'' => e' = .returned .nilIface ∧ Ext w' w'') := fun w' he =>
    (half_in h0 h1 (r.ra.ext he) (r.rb.ext he)).mono fun _ _ p => by
      rcases p with ⟨⟨i, hi, hb⟩, _⟩ | p
      · have := hg i hi; exact absurd hb (by omega)
      · exact p.2
  have R := Lib.hid r
  have HG := Lib.hid hg
  have HB := Lib.hid bx
  obtain ⟨N, hN⟩ : ∃ N, N = 2 * n + 1 := ⟨_, rfl⟩
  unfold OdPost
  rw [← hN]
  have HN := Lib.hid hN
  have hN2 : N ≤ 31 := by omega
  have e1 : IntKind.i64.wrap (2 * (n : Int)) = 2 * (n : Int) := IntWalk.i64_in _ (by omega)
  have e2 : IntKind.i64.wrap (2 * (n : Int) + 1) = (N : Int) := by rw [IntWalk.i64_in _ (by omega)]; omega
  have hba := r.la
  have hbb := r.lb
  clear hN r hg bx
  go_enter Try.func27, Try.ntmps27
  go_upto_region 5 with (go_at_call 40; (with_reducible refine (HK.out _ (Ext.alloc _ _)).mono ?_); rintro e9 w1 ⟨rfl, hb⟩)
  go_cut [8] (fun s wx => ∃ p gx gy, s = .pointer (some ⟨p, 0, none⟩) ∧ Hid (OdSt (w.alloc (.cells #[.slice none 0 0, .slice none 0 0] 24)) wx p gx gy N (fun _ => 0) (fun _ => 0)))
  case first =>
    have hmk := run_make_row' 22 3 (I 0) 8 Try.underlying22 infoInt rfl .i64 .i64 N (by omega) (by omega)
    have hs1 := hb.size
    simp at hs1
    refine wp_region_noPanic ?_
    refine wp_region_held_drew (S := fun _ => True) (by rfl) ?_ (fun hHeld => ?_)
    · exact trivial
    have E0 := hb.trans (Ext.drew w1)
    generalize w1.drew = wd at E0 hHeld ⊢
    have hsz := E0.size
    (try simp at hsz)
    refine wpAnyH_take (i := 0) (oi := { dst := some 20, op := Op.move (Operand.tmp 7), type := 3, pos := "curve.go:90", after := #[], guard := none }) (v := ?_) rfl (by as_aux_lemma => kernel_rfl) (by as_aux_lemma => kernel_rfl) (by as_aux_lemma => kernel_rfl) (fun _ _ _ h => h) (Or.inl ⟨by rfl, ?hy⟩) hHeld ?_
    case hy => ((intro w' hSw; (try dsimp only at hSw); go_simp); (try with_reducible rfl))
    (try simp only [Act.put, List.setIfInBounds_toArray, List.set_cons_zero, List.set_cons_succ])
    refine wpAnyH_take (i := 1) (oi := { dst := some 21, op := Op.binOp BinOp.mul 3 (Operand.const (Value.int IntKind.i64 2)) (Operand.tmp 20) 3, type := 3, pos := "curve.go:90", after := #[{ on := 0, ground := Ground.data }], guard := none }) (v := ?_) rfl (by as_aux_lemma => kernel_rfl) (by as_aux_lemma => kernel_rfl) (by as_aux_lemma => kernel_rfl) (fun _ _ _ h => h) (Or.inl ⟨by rfl, ?hy⟩) hHeld ?_
    case hy => ((intro w' hSw; (try dsimp only at hSw); go_simp); (try with_reducible rfl))
    (try simp only [Act.put, List.setIfInBounds_toArray, List.set_cons_zero, List.set_cons_succ])
    refine wpAnyH_take (i := 2) (oi := { dst := some 22, op := Op.binOp BinOp.add 3 (Operand.tmp 21) (Operand.const (Value.int IntKind.i64 1)) 3, type := 3, pos := "curve.go:90", after := #[{ on := 1, ground := Ground.data }], guard := none }) (v := ?_) rfl (by as_aux_lemma => kernel_rfl) (by as_aux_lemma => kernel_rfl) (by as_aux_lemma => kernel_rfl) (fun _ _ _ h => h) (Or.inl ⟨by rfl, ?hy⟩) hHeld ?_
    case hy => ((intro w' hSw; (try dsimp only at hSw); go_simp); (try with_reducible rfl))
    (try simp only [Act.put, List.setIfInBounds_toArray, List.set_cons_zero, List.set_cons_succ])
    refine wpAnyH_take (i := 4) (oi := { dst := some 24, op := Op.move (Operand.tmp 7), type := 3, pos := "curve.go:90", after := #[], guard := none }) (v := ?_) rfl (by as_aux_lemma => kernel_rfl) (by as_aux_lemma => kernel_rfl) (by as_aux_lemma => kernel_rfl) (fun _ _ _ h => h) (Or.inl ⟨by rfl, ?hy⟩) hHeld ?_
    case hy => ((intro w' hSw; (try dsimp only at hSw); go_simp); (try with_reducible rfl))
    (try simp only [Act.put, List.setIfInBounds_toArray, List.set_cons_zero, List.set_cons_succ])
    refine wpAnyH_take (i := 5) (oi := { dst := some 25, op := Op.binOp BinOp.mul 3 (Operand.const (Value.int IntKind.i64 2)) (Operand.tmp 24) 3, type := 3, pos := "curve.go:90", after := #[{ on := 4, ground := Ground.data }], guard := none }) (v := ?_) rfl (by as_aux_lemma => kernel_rfl) (by as_aux_lemma => kernel_rfl) (by as_aux_lemma => kernel_rfl) (fun _ _ _ h => h) (Or.inl ⟨by rfl, ?hy⟩) hHeld ?_
    case hy => ((intro w' hSw; (try dsimp only at hSw); go_simp); (try with_reducible rfl))
    (try simp only [Act.put, List.setIfInBounds_toArray, List.set_cons_zero, List.set_cons_succ])
    refine wpAnyH_take (i := 6) (oi := { dst := some 26, op := Op.binOp BinOp.add 3 (Operand.tmp 25) (Operand.const (Value.int IntKind.i64 1)) 3, type := 3, pos := "curve.go:90", after := #[{ on := 5, ground := Ground.data }], guard := none }) (v := ?_) rfl (by as_aux_lemma => kernel_rfl) (by as_aux_lemma => kernel_rfl) (by as_aux_lemma => kernel_rfl) (fun _ _ _ h => h) (Or.inl ⟨by rfl, ?hy⟩) hHeld ?_
    case hy => ((intro w' hSw; (try dsimp only at hSw); go_simp); (try with_reducible rfl))
    (try simp only [Act.put, List.setIfInBounds_toArray, List.set_cons_zero, List.set_cons_succ])
    refine wpAnyH_ready (rs := [3, 7, 9]) (by as_aux_lemma => kernel_rfl) (by simp) ?_
    refine AllReadyH.cons (o := { dst := some 23, op := Op.makeSlice 22 (Operand.tmp 22) (Operand.tmp 22), type := 22, pos := "curve.go:90", after := #[{ on := 2, ground := Ground.data }, { on := 2, ground := Ground.data }], guard := none }) rfl (fun K hK => ?_) ?_
    · have rx1 := rowIs_made' wd (I 0) N 3 (by simp : wd.heap.size = _)
      have E1 := E0.trans (Ext.alloc wd (.cells (madeCells #[I 0] N) 3))
      go_simp
      refine hK.out _ _ (trivial) (fun hHeld' => ?_)
      clear hK K hHeld
      have hHeld := hHeld'
      clear hHeld'
      (try simp only [Act.put, List.setIfInBounds_toArray, List.set_cons_zero, List.set_cons_succ])
      refine wpAnyH_ready (rs := [7, 9]) (by as_aux_lemma => kernel_rfl) (by simp) ?_
      refine AllReadyH.cons (o := { dst := some 27, op := Op.makeSlice 22 (Operand.tmp 26) (Operand.tmp 26), type := 22, pos := "curve.go:90", after := #[{ on := 6, ground := Ground.data }, { on := 6, ground := Ground.data }], guard := none }) rfl (fun K hK => ?_) ?_
      · have rx3 := rx1.ext (Ext.alloc (wd.alloc (.cells (madeCells #[I 0] N) 3)) (.cells (madeCells #[I 0] N) 3))
        have ry2 := rowIs_made' (wd.alloc (.cells (madeCells #[I 0] N) 3)) (I 0) N 3 (by simp : wd.heap.size + 1 = _)
        have E2 := E1.trans (Ext.alloc (wd.alloc (.cells (madeCells #[I 0] N) 3)) (.cells (madeCells #[I 0] N) 3))
        go_simp
        refine hK.out _ _ (trivial) (fun hHeld' => ?_)
        clear hK K hHeld
        have hHeld := hHeld'
        clear hHeld'
        (try simp only [Act.put, List.setIfInBounds_toArray, List.set_cons_zero, List.set_cons_succ])
        refine wpAnyH_take (i := 8) (oi := { dst := some 28, op := Op.build 24 #[(0, Operand.tmp 23), (1, Operand.tmp 27)], type := 24, pos := "curve.go:90", after := #[{ on := 3, ground := Ground.data }, { on := 7, ground := Ground.data }], guard := none }) (v := ?_) rfl (by as_aux_lemma => kernel_rfl) (by as_aux_lemma => kernel_rfl) (by as_aux_lemma => kernel_rfl) (fun _ _ _ h => h) (Or.inl ⟨by rfl, ?hy⟩) hHeld ?_
        case hy => ((intro w' hSw; (try dsimp only at hSw); go_simp); (try with_reducible rfl))
        (try simp only [Act.put, List.setIfInBounds_toArray, List.set_cons_zero, List.set_cons_succ])
        refine wpAnyH_ready (rs := [9]) (by as_aux_lemma => kernel_rfl) (by simp) ?_
        refine AllReadyH.cons (o := { dst := some 8, op := Op.alloc 24, type := 0, pos := "curve.go:90", after := #[], guard := none }) rfl (fun K hK => ?_) AllReadyH.nil
        have rx5 := rx3.ext (Ext.alloc ((wd.alloc (.cells (madeCells #[I 0] N) 3)).alloc (.cells (madeCells #[I 0] N) 3)) (.cells #[.slice none 0 0, .slice none 0 0] 24))
        have ry6 := ry2.ext (Ext.alloc ((wd.alloc (.cells (madeCells #[I 0] N) 3)).alloc (.cells (madeCells #[I 0] N) 3)) (.cells #[.slice none 0 0, .slice none 0 0] 24))
        have bx4 := B2.new' ((wd.alloc (.cells (madeCells #[I 0] N) 3)).alloc (.cells (madeCells #[I 0] N) 3)) (.slice none 0 0) (.slice none 0 0) 24 (by simp : wd.heap.size + 1 + 1 = _)
        have E4 := E2.trans (Ext.alloc ((wd.alloc (.cells (madeCells #[I 0] N) 3)).alloc (.cells (madeCells #[I 0] N) 3)) (.cells #[.slice none 0 0, .slice none 0 0] 24))
        go_simp
        refine hK.out _ _ (trivial) (fun hHeld' => ?_)
        clear hK K hHeld
        have hHeld := hHeld'
        clear hHeld'
        (try simp only [Act.put, List.setIfInBounds_toArray, List.set_cons_zero, List.set_cons_succ])
        refine wpAnyH_ready (rs := [10]) (by as_aux_lemma => kernel_rfl) (by simp) ?_
        refine AllReadyH.cons (o := { dst := none, op := Op.store 24 (Operand.tmp 8) (Operand.tmp 28), type := 0, pos := "curve.go:90", after := #[{ on := 9, ground := Ground.data }, { on := 8, ground := Ground.data }, { on := 0, ground := Ground.phase }, { on := 1, ground := Ground.phase }, { on := 2, ground := Ground.phase }, { on := 3, ground := Ground.phase }, { on := 4, ground := Ground.phase }, { on := 5, ground := Ground.phase }, { on := 6, ground := Ground.phase }, { on := 7, ground := Ground.phase }, { on := 8, ground := Ground.phase }, { on := 9, ground := Ground.phase }], guard := none }) rfl (fun K hK => ?_) AllReadyH.nil
        generalize (((wd.alloc (.cells (madeCells #[I 0] N) 3)).alloc (.cells (madeCells #[I 0] N) 3)).alloc (.cells #[.slice none 0 0, .slice none 0 0] 24)) = wz at E4 bx4 rx5 ry6 ⊢
        have V7 := OdSt.fin E4 bx4 rx5 ry6 (by clear hHeld HK; (try clear hmk); (try simp); omega)
        have E7 := V7.ext
        obtain ⟨⟨b0, b1⟩, bf⟩ := bx4
        go_simp
        clear b0 b1 bf
        refine hK.out _ _ (trivial) (fun hHeld' => ?_)
        clear hK K hHeld
        have hHeld := hHeld'
        clear hHeld'
        (try simp only [Act.put, List.setIfInBounds_toArray, List.set_cons_zero, List.set_cons_succ])
        refine wpAnyH_done (by as_aux_lemma => kernel_rfl) ?_ _
        (try refine NoPanic.normal ?_)
        have VE := Lib.hid V7
        go_wp2_with fail
        go_meet
        exact ⟨_, _, _, rfl, VE.out⟩
      refine AllReadyH.cons (o := { dst := some 8, op := Op.alloc 24, type := 0, pos := "curve.go:90", after := #[], guard := none }) rfl (fun K hK => ?_) ?_
      · have rx9 := rx1.ext (Ext.alloc (wd.alloc (.cells (madeCells #[I 0] N) 3)) (.cells #[.slice none 0 0, .slice none 0 0] 24))
        have bx8 := B2.new' (wd.alloc (.cells (madeCells #[I 0] N) 3)) (.slice none 0 0) (.slice none 0 0) 24 (by simp : wd.heap.size + 1 = _)
        have E8 := E1.trans (Ext.alloc (wd.alloc (.cells (madeCells #[I 0] N) 3)) (.cells #[.slice none 0 0, .slice none 0 0] 24))
        go_simp
        refine hK.out _ _ (trivial) (fun hHeld' => ?_)
        clear hK K hHeld
        have hHeld := hHeld'
        clear hHeld'
        (try simp only [Act.put, List.setIfInBounds_toArray, List.set_cons_zero, List.set_cons_succ])
        refine wpAnyH_ready (rs := [7]) (by as_aux_lemma => kernel_rfl) (by simp) ?_
        refine AllReadyH.cons (o := { dst := some 27, op := Op.makeSlice 22 (Operand.tmp 26) (Operand.tmp 26), type := 22, pos := "curve.go:90", after := #[{ on := 6, ground := Ground.data }, { on := 6, ground := Ground.data }], guard := none }) rfl (fun K hK => ?_) AllReadyH.nil
        have rx11 := rx9.ext (Ext.alloc ((wd.alloc (.cells (madeCells #[I 0] N) 3)).alloc (.cells #[.slice none 0 0, .slice none 0 0] 24)) (.cells (madeCells #[I 0] N) 3))
        have bx12 := bx8.ext (Ext.alloc ((wd.alloc (.cells (madeCells #[I 0] N) 3)).alloc (.cells #[.slice none 0 0, .slice none 0 0] 24)) (.cells (madeCells #[I 0] N) 3))
        have ry10 := rowIs_made' ((wd.alloc (.cells (madeCells #[I 0] N) 3)).alloc (.cells #[.slice none 0 0, .slice none 0 0] 24)) (I 0) N 3 (by simp : wd.heap.size + 1 + 1 = _)
        have E10 := E8.trans (Ext.alloc ((wd.alloc (.cells (madeCells #[I 0] N) 3)).alloc (.cells #[.slice none 0 0, .slice none 0 0] 24)) (.cells (madeCells #[I 0] N) 3))
        go_simp
        refine hK.out _ _ (trivial) (fun hHeld' => ?_)
        clear hK K hHeld
        have hHeld := hHeld'
        clear hHeld'
        (try simp only [Act.put, List.setIfInBounds_toArray, List.set_cons_zero, List.set_cons_succ])
        refine wpAnyH_take (i := 8) (oi := { dst := some 28, op := Op.build 24 #[(0, Operand.tmp 23), (1, Operand.tmp 27)], type := 24, pos := "curve.go:90", after := #[{ on := 3, ground := Ground.data }, { on := 7, ground := Ground.data }], guard := none }) (v := ?_) rfl (by as_aux_lemma => kernel_rfl) (by as_aux_lemma => kernel_rfl) (by as_aux_lemma => kernel_rfl) (fun _ _ _ h => h) (Or.inl ⟨by rfl, ?hy⟩) hHeld ?_
        case hy => ((intro w' hSw; (try dsimp only at hSw); go_simp); (try with_reducible rfl))
        (try simp only [Act.put, List.setIfInBounds_toArray, List.set_cons_zero, List.set_cons_succ])
        refine wpAnyH_ready (rs := [10]) (by as_aux_lemma => kernel_rfl) (by simp) ?_
        refine AllReadyH.cons (o := { dst := none, op := Op.store 24 (Operand.tmp 8) (Operand.tmp 28), type := 0, pos := "curve.go:90", after := #[{ on := 9, ground := Ground.data }, { on := 8, ground := Ground.data }, { on := 0, ground := Ground.phase }, { on := 1, ground := Ground.phase }, { on := 2, ground := Ground.phase }, { on := 3, ground := Ground.phase }, { on := 4, ground := Ground.phase }, { on := 5, ground := Ground.phase }, { on := 6, ground := Ground.phase }, { on := 7, ground := Ground.phase }, { on := 8, ground := Ground.phase }, { on := 9, ground := Ground.phase }], guard := none }) rfl (fun K hK => ?_) AllReadyH.nil
        generalize (((wd.alloc (.cells (madeCells #[I 0] N) 3)).alloc (.cells #[.slice none 0 0, .slice none 0 0] 24)).alloc (.cells (madeCells #[I 0] N) 3)) = wz at E10 bx12 rx11 ry10 ⊢
        have V13 := OdSt.fin E10 bx12 rx11 ry10 (by clear hHeld HK; (try clear hmk); (try simp); omega)
        have E13 := V13.ext
        obtain ⟨⟨b0, b1⟩, bf⟩ := bx12
        go_simp
        clear b0 b1 bf
        refine hK.out _ _ (trivial) (fun hHeld' => ?_)
        clear hK K hHeld
        have hHeld := hHeld'
        clear hHeld'
        (try simp only [Act.put, List.setIfInBounds_toArray, List.set_cons_zero, List.set_cons_succ])
        refine wpAnyH_done (by as_aux_lemma => kernel_rfl) ?_ _
        (try refine NoPanic.normal ?_)
        have VE := Lib.hid V13
        go_wp2_with fail
        go_meet
        exact ⟨_, _, _, rfl, VE.out⟩
      exact AllReadyH.nil
    refine AllReadyH.cons (o := { dst := some 27, op := Op.makeSlice 22 (Operand.tmp 26) (Operand.tmp 26), type := 22, pos := "curve.go:90", after := #[{ on := 6, ground := Ground.data }, { on := 6, ground := Ground.data }], guard := none }) rfl (fun K hK => ?_) ?_
    · have ry14 := rowIs_made' wd (I 0) N 3 (by simp : wd.heap.size = _)
      have E14 := E0.trans (Ext.alloc wd (.cells (madeCells #[I 0] N) 3))
      go_simp
      refine hK.out _ _ (trivial) (fun hHeld' => ?_)
      clear hK K hHeld
      have hHeld := hHeld'
      clear hHeld'
      (try simp only [Act.put, List.setIfInBounds_toArray, List.set_cons_zero, List.set_cons_succ])
      refine wpAnyH_ready (rs := [3, 9]) (by as_aux_lemma => kernel_rfl) (by simp) ?_
      refine AllReadyH.cons (o := { dst := some 23, op := Op.makeSlice 22 (Operand.tmp 22) (Operand.tmp 22), type := 22, pos := "curve.go:90", after := #[{ on := 2, ground := Ground.data }, { on := 2, ground := Ground.data }], guard := none }) rfl (fun K hK => ?_) ?_
      · have ry16 := ry14.ext (Ext.alloc (wd.alloc (.cells (madeCells #[I 0] N) 3)) (.cells (madeCells #[I 0] N) 3))
        have rx15 := rowIs_made' (wd.alloc (.cells (madeCells #[I 0] N) 3)) (I 0) N 3 (by simp : wd.heap.size + 1 = _)
        have E15 := E14.trans (Ext.alloc (wd.alloc (.cells (madeCells #[I 0] N) 3)) (.cells (madeCells #[I 0] N) 3))
        go_simp
        refine hK.out _ _ (trivial) (fun hHeld' => ?_)
        clear hK K hHeld
        have hHeld := hHeld'
        clear hHeld'
        (try simp only [Act.put, List.setIfInBounds_toArray, List.set_cons_zero, List.set_cons_succ])
        refine wpAnyH_take (i := 8) (oi := { dst := some 28, op := Op.build 24 #[(0, Operand.tmp 23), (1, Operand.tmp 27)], type := 24, pos := "curve.go:90", after := #[{ on := 3, ground := Ground.data }, { on := 7, ground := Ground.data }], guard := none }) (v := ?_) rfl (by as_aux_lemma => kernel_rfl) (by as_aux_lemma => kernel_rfl) (by as_aux_lemma => kernel_rfl) (fun _ _ _ h => h) (Or.inl ⟨by rfl, ?hy⟩) hHeld ?_
        case hy => ((intro w' hSw; (try dsimp only at hSw); go_simp); (try with_reducible rfl))
        (try simp only [Act.put, List.setIfInBounds_toArray, List.set_cons_zero, List.set_cons_succ])
        refine wpAnyH_ready (rs := [9]) (by as_aux_lemma => kernel_rfl) (by simp) ?_
        refine AllReadyH.cons (o := { dst := some 8, op := Op.alloc 24, type := 0, pos := "curve.go:90", after := #[], guard := none }) rfl (fun K hK => ?_) AllReadyH.nil
        have ry18 := ry16.ext (Ext.alloc ((wd.alloc (.cells (madeCells #[I 0] N) 3)).alloc (.cells (madeCells #[I 0] N) 3)) (.cells #[.slice none 0 0, .slice none 0 0] 24))
        have rx19 := rx15.ext (Ext.alloc ((wd.alloc (.cells (madeCells #[I 0] N) 3)).alloc (.cells (madeCells #[I 0] N) 3)) (.cells #[.slice none 0 0, .slice none 0 0] 24))
        have bx17 := B2.new' ((wd.alloc (.cells (madeCells #[I 0] N) 3)).alloc (.cells (madeCells #[I 0] N) 3)) (.slice none 0 0) (.slice none 0 0) 24 (by simp : wd.heap.size + 1 + 1 = _)
        have E17 := E15.trans (Ext.alloc ((wd.alloc (.cells (madeCells #[I 0] N) 3)).alloc (.cells (madeCells #[I 0] N) 3)) (.cells #[.slice none 0 0, .slice none 0 0] 24))
        go_simp
        refine hK.out _ _ (trivial) (fun hHeld' => ?_)
        clear hK K hHeld
        have hHeld := hHeld'
        clear hHeld'
        (try simp only [Act.put, List.setIfInBounds_toArray, List.set_cons_zero, List.set_cons_succ])
        refine wpAnyH_ready (rs := [10]) (by as_aux_lemma => kernel_rfl) (by simp) ?_
        refine AllReadyH.cons (o := { dst := none, op := Op.store 24 (Operand.tmp 8) (Operand.tmp 28), type := 0, pos := "curve.go:90", after := #[{ on := 9, ground := Ground.data }, { on := 8, ground := Ground.data }, { on := 0, ground := Ground.phase }, { on := 1, ground := Ground.phase }, { on := 2, ground := Ground.phase }, { on := 3, ground := Ground.phase }, { on := 4, ground := Ground.phase }, { on := 5, ground := Ground.phase }, { on := 6, ground := Ground.phase }, { on := 7, ground := Ground.phase }, { on := 8, ground := Ground.phase }, { on := 9, ground := Ground.phase }], guard := none }) rfl (fun K hK => ?_) AllReadyH.nil
        generalize (((wd.alloc (.cells (madeCells #[I 0] N) 3)).alloc (.cells (madeCells #[I 0] N) 3)).alloc (.cells #[.slice none 0 0, .slice none 0 0] 24)) = wz at E17 bx17 rx19 ry18 ⊢
        have V20 := OdSt.fin E17 bx17 rx19 ry18 (by clear hHeld HK; (try clear hmk); (try simp); omega)
        have E20 := V20.ext
        obtain ⟨⟨b0, b1⟩, bf⟩ := bx17
        go_simp
        clear b0 b1 bf
        refine hK.out _ _ (trivial) (fun hHeld' => ?_)
        clear hK K hHeld
        have hHeld := hHeld'
        clear hHeld'
        (try simp only [Act.put, List.setIfInBounds_toArray, List.set_cons_zero, List.set_cons_succ])
        refine wpAnyH_done (by as_aux_lemma => kernel_rfl) ?_ _
        (try refine NoPanic.normal ?_)
        have VE := Lib.hid V20
        go_wp2_with fail
        go_meet
        exact ⟨_, _, _, rfl, VE.out⟩
      refine AllReadyH.cons (o := { dst := some 8, op := Op.alloc 24, type := 0, pos := "curve.go:90", after := #[], guard := none }) rfl (fun K hK => ?_) ?_
      · have ry22 := ry14.ext (Ext.alloc (wd.alloc (.cells (madeCells #[I 0] N) 3)) (.cells #[.slice none 0 0, .slice none 0 0] 24))
        have bx21 := B2.new' (wd.alloc (.cells (madeCells #[I 0] N) 3)) (.slice none 0 0) (.slice none 0 0) 24 (by simp : wd.heap.size + 1 = _)
        have E21 := E14.trans (Ext.alloc (wd.alloc (.cells (madeCells #[I 0] N) 3)) (.cells #[.slice none 0 0, .slice none 0 0] 24))
        go_simp
        refine hK.out _ _ (trivial) (fun hHeld' => ?_)
        clear hK K hHeld
        have hHeld := hHeld'
        clear hHeld'
        (try simp only [Act.put, List.setIfInBounds_toArray, List.set_cons_zero, List.set_cons_succ])
        refine wpAnyH_ready (rs := [3]) (by as_aux_lemma => kernel_rfl) (by simp) ?_
        refine AllReadyH.cons (o := { dst := some 23, op := Op.makeSlice 22 (Operand.tmp 22) (Operand.tmp 22), type := 22, pos := "curve.go:90", after := #[{ on := 2, ground := Ground.data }, { on := 2, ground := Ground.data }], guard := none }) rfl (fun K hK => ?_) AllReadyH.nil
        have ry24 := ry22.ext (Ext.alloc ((wd.alloc (.cells (madeCells #[I 0] N) 3)).alloc (.cells #[.slice none 0 0, .slice none 0 0] 24)) (.cells (madeCells #[I 0] N) 3))
        have bx25 := bx21.ext (Ext.alloc ((wd.alloc (.cells (madeCells #[I 0] N) 3)).alloc (.cells #[.slice none 0 0, .slice none 0 0] 24)) (.cells (madeCells #[I 0] N) 3))
        have rx23 := rowIs_made' ((wd.alloc (.cells (madeCells #[I 0] N) 3)).alloc (.cells #[.slice none 0 0, .slice none 0 0] 24)) (I 0) N 3 (by simp : wd.heap.size + 1 + 1 = _)
        have E23 := E21.trans (Ext.alloc ((wd.alloc (.cells (madeCells #[I 0] N) 3)).alloc (.cells #[.slice none 0 0, .slice none 0 0] 24)) (.cells (madeCells #[I 0] N) 3))
        go_simp
        refine hK.out _ _ (trivial) (fun hHeld' => ?_)
        clear hK K hHeld
        have hHeld := hHeld'
        clear hHeld'
        (try simp only [Act.put, List.setIfInBounds_toArray, List.set_cons_zero, List.set_cons_succ])
        refine wpAnyH_take (i := 8) (oi := { dst := some 28, op := Op.build 24 #[(0, Operand.tmp 23), (1, Operand.tmp 27)], type := 24, pos := "curve.go:90", after := #[{ on := 3, ground := Ground.data }, { on := 7, ground := Ground.data }], guard := none }) (v := ?_) rfl (by as_aux_lemma => kernel_rfl) (by as_aux_lemma => kernel_rfl) (by as_aux_lemma => kernel_rfl) (fun _ _ _ h => h) (Or.inl ⟨by rfl, ?hy⟩) hHeld ?_
        case hy => ((intro w' hSw; (try dsimp only at hSw); go_simp); (try with_reducible rfl))
        (try simp only [Act.put, List.setIfInBounds_toArray, List.set_cons_zero, List.set_cons_succ])
        refine wpAnyH_ready (rs := [10]) (by as_aux_lemma => kernel_rfl) (by simp) ?_
        refine AllReadyH.cons (o := { dst := none, op := Op.store 24 (Operand.tmp 8) (Operand.tmp 28), type := 0, pos := "curve.go:90", after := #[{ on := 9, ground := Ground.data }, { on := 8, ground := Ground.data }, { on := 0, ground := Ground.phase }, { on := 1, ground := Ground.phase }, { on := 2, ground := Ground.phase }, { on := 3, ground := Ground.phase }, { on := 4, ground := Ground.phase }, { on := 5, ground := Ground.phase }, { on := 6, ground := Ground.phase }, { on := 7, ground := Ground.phase }, { on := 8, ground := Ground.phase }, { on := 9, ground := Ground.phase }], guard := none }) rfl (fun K hK => ?_) AllReadyH.nil
        generalize (((wd.alloc (.cells (madeCells #[I 0] N) 3)).alloc (.cells #[.slice none 0 0, .slice none 0 0] 24)).alloc (.cells (madeCells #[I 0] N) 3)) = wz at E23 bx25 rx23 ry24 ⊢
        have V26 := OdSt.fin E23 bx25 rx23 ry24 (by clear hHeld HK; (try clear hmk); (try simp); omega)
        have E26 := V26.ext
        obtain ⟨⟨b0, b1⟩, bf⟩ := bx25
        go_simp
        clear b0 b1 bf
        refine hK.out _ _ (trivial) (fun hHeld' => ?_)
        clear hK K hHeld
        have hHeld := hHeld'
        clear hHeld'
        (try simp only [Act.put, List.setIfInBounds_toArray, List.set_cons_zero, List.set_cons_succ])
        refine wpAnyH_done (by as_aux_lemma => kernel_rfl) ?_ _
        (try refine NoPanic.normal ?_)
        have VE := Lib.hid V26
        go_wp2_with fail
        go_meet
        exact ⟨_, _, _, rfl, VE.out⟩
      exact AllReadyH.nil
    refine AllReadyH.cons (o := { dst := some 8, op := Op.alloc 24, type := 0, pos := "curve.go:90", after := #[], guard := none }) rfl (fun K hK => ?_) ?_
    · have bx27 := B2.new' wd (.slice none 0 0) (.slice none 0 0) 24 (by simp : wd.heap.size = _)
      have E27 := E0.trans (Ext.alloc wd (.cells #[.slice none 0 0, .slice none 0 0] 24))
      go_simp
      refine hK.out _ _ (trivial) (fun hHeld' => ?_)
      clear hK K hHeld
      have hHeld := hHeld'
      clear hHeld'
      (try simp only [Act.put, List.setIfInBounds_toArray, List.set_cons_zero, List.set_cons_succ])
      refine wpAnyH_ready (rs := [3, 7]) (by as_aux_lemma => kernel_rfl) (by simp) ?_
      refine AllReadyH.cons (o := { dst := some 23, op := Op.makeSlice 22 (Operand.tmp 22) (Operand.tmp 22), type := 22, pos := "curve.go:90", after := #[{ on := 2, ground := Ground.data }, { on := 2, ground := Ground.data }], guard := none }) rfl (fun K hK => ?_) ?_
      · have bx29 := bx27.ext (Ext.alloc (wd.alloc (.cells #[.slice none 0 0, .slice none 0 0] 24)) (.cells (madeCells #[I 0] N) 3))
        have rx28 := rowIs_made' (wd.alloc (.cells #[.slice none 0 0, .slice none 0 0] 24)) (I 0) N 3 (by simp : wd.heap.size + 1 = _)
        have E28 := E27.trans (Ext.alloc (wd.alloc (.cells #[.slice none 0 0, .slice none 0 0] 24)) (.cells (madeCells #[I 0] N) 3))
        go_simp
        refine hK.out _ _ (trivial) (fun hHeld' => ?_)
        clear hK K hHeld
        have hHeld := hHeld'
        clear hHeld'
        (try simp only [Act.put, List.setIfInBounds_toArray, List.set_cons_zero, List.set_cons_succ])
        refine wpAnyH_ready (rs := [7]) (by as_aux_lemma => kernel_rfl) (by simp) ?_
        refine AllReadyH.cons (o := { dst := some 27, op := Op.makeSlice 22 (Operand.tmp 26) (Operand.tmp 26), type := 22, pos := "curve.go:90", after := #[{ on := 6, ground := Ground.data }, { on := 6, ground := Ground.data }], guard := none }) rfl (fun K hK => ?_) AllReadyH.nil
        have bx31 := bx29.ext (Ext.alloc ((wd.alloc (.cells #[.slice none 0 0, .slice none 0 0] 24)).alloc (.cells (madeCells #[I 0] N) 3)) (.cells (madeCells #[I 0] N) 3))
        have rx32 := rx28.ext (Ext.alloc ((wd.alloc (.cells #[.slice none 0 0, .slice none 0 0] 24)).alloc (.cells (madeCells #[I 0] N) 3)) (.cells (madeCells #[I 0] N) 3))
        have ry30 := rowIs_made' ((wd.alloc (.cells #[.slice none 0 0, .slice none 0 0] 24)).alloc (.cells (madeCells #[I 0] N) 3)) (I 0) N 3 (by simp : wd.heap.size + 1 + 1 = _)
        have E30 := E28.trans (Ext.alloc ((wd.alloc (.cells #[.slice none 0 0, .slice none 0 0] 24)).alloc (.cells (madeCells #[I 0] N) 3)) (.cells (madeCells #[I 0] N) 3))
        go_simp
        refine hK.out _ _ (trivial) (fun hHeld' => ?_)
        clear hK K hHeld
        have hHeld := hHeld'
        clear hHeld'
        (try simp only [Act.put, List.setIfInBounds_toArray, List.set_cons_zero, List.set_cons_succ])
        refine wpAnyH_take (i := 8) (oi := { dst := some 28, op := Op.build 24 #[(0, Operand.tmp 23), (1, Operand.tmp 27)], type := 24, pos := "curve.go:90", after := #[{ on := 3, ground := Ground.data }, { on := 7, ground := Ground.data }], guard := none }) (v := ?_) rfl (by as_aux_lemma => kernel_rfl) (by as_aux_lemma => kernel_rfl) (by as_aux_lemma => kernel_rfl) (fun _ _ _ h => h) (Or.inl ⟨by rfl, ?hy⟩) hHeld ?_
        case hy => ((intro w' hSw; (try dsimp only at hSw); go_simp); (try with_reducible rfl))
        (try simp only [Act.put, List.setIfInBounds_toArray, List.set_cons_zero, List.set_cons_succ])
        refine wpAnyH_ready (rs := [10]) (by as_aux_lemma => kernel_rfl) (by simp) ?_
        refine AllReadyH.cons (o := { dst := none, op := Op.store 24 (Operand.tmp 8) (Operand.tmp 28), type := 0, pos := "curve.go:90", after := #[{ on := 9, ground := Ground.data }, { on := 8, ground := Ground.data }, { on := 0, ground := Ground.phase }, { on := 1, ground := Ground.phase }, { on := 2, ground := Ground.phase }, { on := 3, ground := Ground.phase }, { on := 4, ground := Ground.phase }, { on := 5, ground := Ground.phase }, { on := 6, ground := Ground.phase }, { on := 7, ground := Ground.phase }, { on := 8, ground := Ground.phase }, { on := 9, ground := Ground.phase }], guard := none }) rfl (fun K hK => ?_) AllReadyH.nil
        generalize (((wd.alloc (.cells #[.slice none 0 0, .slice none 0 0] 24)).alloc (.cells (madeCells #[I 0] N) 3)).alloc (.cells (madeCells #[I 0] N) 3)) = wz at E30 bx31 rx32 ry30 ⊢
        have V33 := OdSt.fin E30 bx31 rx32 ry30 (by clear hHeld HK; (try clear hmk); (try simp); omega)
        have E33 := V33.ext
        obtain ⟨⟨b0, b1⟩, bf⟩ := bx31
        go_simp
        clear b0 b1 bf
        refine hK.out _ _ (trivial) (fun hHeld' => ?_)
        clear hK K hHeld
        have hHeld := hHeld'
        clear hHeld'
        (try simp only [Act.put, List.setIfInBounds_toArray, List.set_cons_zero, List.set_cons_succ])
        refine wpAnyH_done (by as_aux_lemma => kernel_rfl) ?_ _
        (try refine NoPanic.normal ?_)
        have VE := Lib.hid V33
        go_wp2_with fail
        go_meet
        exact ⟨_, _, _, rfl, VE.out⟩
      refine AllReadyH.cons (o := { dst := some 27, op := Op.makeSlice 22 (Operand.tmp 26) (Operand.tmp 26), type := 22, pos := "curve.go:90", after := #[{ on := 6, ground := Ground.data }, { on := 6, ground := Ground.data }], guard := none }) rfl (fun K hK => ?_) ?_
      · have bx35 := bx27.ext (Ext.alloc (wd.alloc (.cells #[.slice none 0 0, .slice none 0 0] 24)) (.cells (madeCells #[I 0] N) 3))
        have ry34 := rowIs_made' (wd.alloc (.cells #[.slice none 0 0, .slice none 0 0] 24)) (I 0) N 3 (by simp : wd.heap.size + 1 = _)
        have E34 := E27.trans (Ext.alloc (wd.alloc (.cells #[.slice none 0 0, .slice none 0 0] 24)) (.cells (madeCells #[I 0] N) 3))
        go_simp
        refine hK.out _ _ (trivial) (fun hHeld' => ?_)
        clear hK K hHeld
        have hHeld := hHeld'
        clear hHeld'
        (try simp only [Act.put, List.setIfInBounds_toArray, List.set_cons_zero, List.set_cons_succ])
        refine wpAnyH_ready (rs := [3]) (by as_aux_lemma => kernel_rfl) (by simp) ?_
        refine AllReadyH.cons (o := { dst := some 23, op := Op.makeSlice 22 (Operand.tmp 22) (Operand.tmp 22), type := 22, pos := "curve.go:90", after := #[{ on := 2, ground := Ground.data }, { on := 2, ground := Ground.data }], guard := none }) rfl (fun K hK => ?_) AllReadyH.nil
        have bx37 := bx35.ext (Ext.alloc ((wd.alloc (.cells #[.slice none 0 0, .slice none 0 0] 24)).alloc (.cells (madeCells #[I 0] N) 3)) (.cells (madeCells #[I 0] N) 3))
        have ry38 := ry34.ext (Ext.alloc ((wd.alloc (.cells #[.slice none 0 0, .slice none 0 0] 24)).alloc (.cells (madeCells #[I 0] N) 3)) (.cells (madeCells #[I 0] N) 3))
        have rx36 := rowIs_made' ((wd.alloc (.cells #[.slice none 0 0, .slice none 0 0] 24)).alloc (.cells (madeCells #[I 0] N) 3)) (I 0) N 3 (by simp : wd.heap.size + 1 + 1 = _)
        have E36 := E34.trans (Ext.alloc ((wd.alloc (.cells #[.slice none 0 0, .slice none 0 0] 24)).alloc (.cells (madeCells #[I 0] N) 3)) (.cells (madeCells #[I 0] N) 3))
        go_simp
        refine hK.out _ _ (trivial) (fun hHeld' => ?_)
        clear hK K hHeld
        have hHeld := hHeld'
        clear hHeld'
        (try simp only [Act.put, List.setIfInBounds_toArray, List.set_cons_zero, List.set_cons_succ])
        refine wpAnyH_take (i := 8) (oi := { dst := some 28, op := Op.build 24 #[(0, Operand.tmp 23), (1, Operand.tmp 27)], type := 24, pos := "curve.go:90", after := #[{ on := 3, ground := Ground.data }, { on := 7, ground := Ground.data }], guard := none }) (v := ?_) rfl (by as_aux_lemma => kernel_rfl) (by as_aux_lemma => kernel_rfl) (by as_aux_lemma => kernel_rfl) (fun _ _ _ h => h) (Or.inl ⟨by rfl, ?hy⟩) hHeld ?_
        case hy => ((intro w' hSw; (try dsimp only at hSw); go_simp); (try with_reducible rfl))
        (try simp only [Act.put, List.setIfInBounds_toArray, List.set_cons_zero, List.set_cons_succ])
        refine wpAnyH_ready (rs := [10]) (by as_aux_lemma => kernel_rfl) (by simp) ?_
        refine AllReadyH.cons (o := { dst := none, op := Op.store 24 (Operand.tmp 8) (Operand.tmp 28), type := 0, pos := "curve.go:90", after := #[{ on := 9, ground := Ground.data }, { on := 8, ground := Ground.data }, { on := 0, ground := Ground.phase }, { on := 1, ground := Ground.phase }, { on := 2, ground := Ground.phase }, { on := 3, ground := Ground.phase }, { on := 4, ground := Ground.phase }, { on := 5, ground := Ground.phase }, { on := 6, ground := Ground.phase }, { on := 7, ground := Ground.phase }, { on := 8, ground := Ground.phase }, { on := 9, ground := Ground.phase }], guard := none }) rfl (fun K hK => ?_) AllReadyH.nil
        generalize (((wd.alloc (.cells #[.slice none 0 0, .slice none 0 0] 24)).alloc (.cells (madeCells #[I 0] N) 3)).alloc (.cells (madeCells #[I 0] N) 3)) = wz at E36 bx37 rx36 ry38 ⊢
        have V39 := OdSt.fin E36 bx37 rx36 ry38 (by clear hHeld HK; (try clear hmk); (try simp); omega)
        have E39 := V39.ext
        obtain ⟨⟨b0, b1⟩, bf⟩ := bx37
        go_simp
        clear b0 b1 bf
        refine hK.out _ _ (trivial) (fun hHeld' => ?_)
        clear hK K hHeld
        have hHeld := hHeld'
        clear hHeld'
        (try simp only [Act.put, List.setIfInBounds_toArray, List.set_cons_zero, List.set_cons_succ])
        refine wpAnyH_done (by as_aux_lemma => kernel_rfl) ?_ _
        (try refine NoPanic.normal ?_)
        have VE := Lib.hid V39
        go_wp2_with fail
        go_meet
        exact ⟨_, _, _, rfl, VE.out⟩
      exact AllReadyH.nil
    exact AllReadyH.nil
  case rest =>
    obtain ⟨p, gx, gy, rfl, ST⟩ := hcut
    clear e1 e2
    have ST0 := Lib.hid (show OdSt (w.alloc (.cells #[.slice none 0 0, .slice none 0 0] 24)) wc p gx gy N (odz n X 0) (odz n Y 0) by rw [odz_0, odz_0]; exact ST.out)
    clear ST
    have R2 : Hid (∀ w', Ext (w.alloc (.cells #[.slice none 0 0, .slice none 0 0] 24)) w' → ∀ i, i < n → w'.cell? ⟨ba, oa + i, none⟩ = some (I (X i)) ∧ w'.cell? ⟨bb, ob + i, none⟩ = some (I (Y i))) := fun w' x i hi =>
      ⟨(R.out.ext ((Ext.alloc w _).trans x)).ca i hi, (R.out.ext ((Ext.alloc w _).trans x)).cb i hi⟩
    go_wp2_with fail
    go_loopw [30] (fun s wr => ∃ j : Nat, j ≤ n ∧ s = I j ∧ Hid (OdSt (w.alloc (.cells #[.slice none 0 0, .slice none 0 0] 24)) wr p gx gy N (odz n X j) (odz n Y j))) (fun s _ => n - (intOf s).toNat)
    case atStart => exact ⟨0, Nat.zero_le _, rfl, ST0⟩
    case round =>
      obtain ⟨j, hj, rfl, ST⟩ := hrel
      obtain ⟨⟨d0, d1⟩, df⟩ := ST.out.box
      obtain ⟨f1, f2, f3, f4, f5, f6⟩ := ST.out.far
      have hsz := ST.out.ext.size
      simp at hsz f1 f2 f3
      by_cases hlt : j < n
      · obtain ⟨xj, yj⟩ := R2.out _ ST.out.ext j hlt
        obtain ⟨u, hu⟩ : ∃ u : Nat, u = n + 1 + j := ⟨_, rfl⟩
        obtain ⟨v, hv⟩ : ∃ v : Nat, v + j + 1 = n := ⟨n - 1 - j, by omega⟩
        have hN3 := HN.out
        have u1 : (0 : Int) ≤ (u : Int) := by omega
        have u2 : (u : Int) < (N : Int) := by omega
        have v1 : (0 : Int) ≤ (v : Int) := by omega
        have v2 : (v : Int) < (N : Int) := by omega
        have u3 : u < N := by omega
        have v3 : v < N := by omega
        have j1 : (0 : Int) ≤ (j : Int) := by omega
        have j2 : (j : Int) < (n : Int) := by omega
        have a1 : IntKind.i64.wrap ((n : Int) + 1) = (n : Int) + 1 := IntWalk.i64_in _ (by omega)
        have a2 : IntKind.i64.wrap ((n : Int) + 1 + (j : Int)) = (u : Int) := by rw [IntWalk.i64_in _ (by omega)]; omega
        have a3 : IntKind.i64.wrap ((n : Int) - 1) = (n : Int) - 1 := IntWalk.i64_in _ (by omega)
        have a4 : IntKind.i64.wrap ((n : Int) - 1 - (j : Int)) = (v : Int) := by rw [IntWalk.i64_in _ (by omega)]; omega
        obtain ⟨gx1, gy1⟩ := HG.out j hlt
        obtain ⟨bx1, by1⟩ := HB.out j hlt
        have a5 : IntKind.i64.wrap (-X j) = -X j := IntWalk.i64_in _ (by omega)
        have a6 : IntKind.i64.wrap (-Y j) = -Y j := IntWalk.i64_in _ (by omega)
        have S1 := Lib.hid ((ST.out.put u (X j) (Y j)))
        have S2 := Lib.hid ((S1.out.put v (-X j) (-Y j)).as (odz_step hu hv) (odz_step hu hv))
        have rxu := ST.out.rx.cell u3
        have rxf := ST.out.rx.frozen u
        have ryu := ST.out.ry.cell u3
        have ryf := ST.out.ry.frozen u
        have rxv := S1.out.rx.cell v3
        have rxf2 := S1.out.rx.frozen v
        have ryv := S1.out.ry.cell v3
        have ryf2 := S1.out.ry.frozen v
        have HF : Hid (∀ w', Far2 gx gy wr w' → w'.cell? ⟨p, 0, none⟩ = some (.slice (some ⟨gx, 0, none⟩) N N) ∧ w'.cell? ⟨p, 1, none⟩ = some (.slice (some ⟨gy, 0, none⟩) N N) ∧ w'.cell? ⟨ba, oa + j, none⟩ = some (I (X j)) ∧ w'.cell? ⟨bb, ob + j, none⟩ = some (I (Y j))) := fun w' f =>
          ⟨f.cell d0 f4 f5, f.cell d1 f4 f5, f.cell xj (by show ba ≠ gx; omega) (by show ba ≠ gy; omega), f.cell yj (by show bb ≠ gx; omega) (by show bb ≠ gy; omega)⟩
        clear hu hv hN3 gx1 gy1 bx1 by1
        go_wp2_with fail
        go_region_held3 (fun w' => w'.cell? ⟨p, 0, none⟩ = some (.slice (some ⟨gx, 0, none⟩) N N) ∧ w'.cell? ⟨p, 1, none⟩ = some (.slice (some ⟨gy, 0, none⟩) N N) ∧ w'.cell? ⟨ba, oa + j, none⟩ = some (I (X j)) ∧ w'.cell? ⟨bb, ob + j, none⟩ = some (I (Y j)))
          (exact HF.out _ (by with_reducible (repeat (first | exact Far2.refl _ _ _ | refine Far2.drew ?_ | refine Far2.set0 ?_ _ _ | refine Far2.set1 ?_ _ _)))) (fail)
        go_wp2_with fail
        go_region_held3 (fun w' => w'.cell? ⟨p, 0, none⟩ = some (.slice (some ⟨gx, 0, none⟩) N N) ∧ w'.cell? ⟨p, 1, none⟩ = some (.slice (some ⟨gy, 0, none⟩) N N) ∧ w'.cell? ⟨ba, oa + j, none⟩ = some (I (X j)) ∧ w'.cell? ⟨bb, ob + j, none⟩ = some (I (Y j)))
          (exact HF.out _ (by with_reducible (repeat (first | exact Far2.refl _ _ _ | refine Far2.drew ?_ | refine Far2.set0 ?_ _ _ | refine Far2.set1 ?_ _ _)))) (fail)
        go_wp2_with fail
        go_roundw
        case rel => exact ⟨j + 1, by omega, by go_num, Lib.hid (S2.out.to ((Ext.drew _).trans (Ext.drew _)))⟩
        case measure => simp [intOf]; omega
      · obtain rfl : j = n := by omega
        have S2 := Lib.hid (ST.out.asN (X' := od j X) (Y' := od j Y) (fun i hi => odz_n (by rw [HN.out] at hi; exact hi)) (fun i hi => odz_n (by rw [HN.out] at hi; exact hi)))
        have HC := Lib.hid (fun w' (he : Ext wr w') => check_any (c := N) (e := N) ((S2.out.to he).ria rfl) ((S2.out.to he).rib rfl) (by unfold maxLen; omega) (by unfold maxLen; omega))
        obtain ⟨K, hK⟩ : ∃ K, chk N N (od j X) (od j Y) = K := ⟨_, rfl⟩
        rw [hK] at HC
        have HKK := Lib.hid hK; clear hK
        by_cases hK0 : K = 0
        · subst hK0
          rw [errv_z] at HC
          go_wp2_with (go_at_call 17; (with_reducible refine (HC.out _ (Ext.refl _)).mono ?_); rintro e9 w9 ⟨rfl, hx9⟩; have S3 := Lib.hid (S2.out.to hx9); have q3 := S3.out.box; clear d0 d1 df; obtain ⟨⟨d0, d1⟩, df⟩ := q3; obtain ⟨⟨r0, r1⟩, rr⟩ := (B2.new' w (.slice none 0 0) (.slice none 0 0) 24 (rfl : w.heap.size = _)).ext S3.out.ext; clear hx9)
          have Q := Lib.hid (box_set (.slice (some ⟨gx, 0, none⟩) N N) (.slice (some ⟨gy, 0, none⟩) N N) r0 r1)
          exact bodyPost_ret (v := .tuple #[cv (some ⟨gx, 0, none⟩) N N (some ⟨gy, 0, none⟩) N N, .nilIface]) (by simp [results, Try.results27, go_sem, Q.out.1, Q.out.2]) rfl (.inl ⟨HKK.out, _, _, _, _, rfl, ⟨by omega, by omega⟩, S3.out.ria (box_far _ _ _ _ _ (by omega)), S3.out.rib (box_far _ _ _ _ _ (by omega)), (((Ext.alloc w _).trans S3.out.ext).set (Nat.le_refl _) _).set (Nat.le_refl _) _⟩)
        · rw [errv_n hK0] at HC
          go_wp2_with (go_at_call 17; (with_reducible refine (HC.out _ (Ext.refl _)).mono ?_); rintro e9 w9 ⟨rfl, hx9⟩; have S3 := Lib.hid (S2.out.to hx9); have q3 := S3.out.box; clear d0 d1 df; obtain ⟨⟨d0, d1⟩, df⟩ := q3; obtain ⟨⟨r0, r1⟩, rr⟩ := (B2.new' w (.slice none 0 0) (.slice none 0 0) 24 (rfl : w.heap.size = _)).ext S3.out.ext; clear hx9)
          have Q := Lib.hid (box_set (.slice none 0 0) (.slice none 0 0) r0 r1)
          exact bodyPost_ret (v := .tuple #[cv none 0 0 none 0 0, .iface 51 (I K)]) (by simp [results, Try.results27, go_sem, Q.out.1, Q.out.2]) rfl (.inr ⟨by rw [HKK.out]; exact hK0, by rw [HKK.out], (((Ext.alloc w _).trans S3.out.ext).set (Nat.le_refl _) _).set (Nat.le_refl _) _⟩)

set_option maxRecDepth 100000 in
set_option maxHeartbeats 1000000 in
theorem odd_bad {w : World} (A B : Option Addr) (n c m e : Nat) {k : Int} (hh : ∀ w', Ext w w' → Calls Try.prog 40 #[.slice A n c, .slice B m e] w' fun e' w'' => e' = .returned (.iface 51 (I k)) ∧ Ext w' w'') :
    Calls Try.prog 27 #[.slice A n c, .slice B m e] w fun e' w' => e' = .returned (.tuple #[cv none 0 0 none 0 0, .iface 51 (I k)]) ∧ Ext w w' := by
  have HC := Lib.hid hh
  clear hh
  go_enter Try.func27, Try.ntmps27
  go_wp2_with (go_at_call 40; (with_reducible refine (HC.out _ (Ext.alloc _ _)).mono ?_); rintro e1 w1 ⟨rfl, hb⟩; obtain ⟨⟨r0, r1⟩, rr⟩ := (B2.new' w (.slice none 0 0) (.slice none 0 0) 24 (rfl : w.heap.size = _)).ext hb; have Q := Lib.hid (box_set (.slice none 0 0) (.slice none 0 0) r0 r1))
  exact bodyPost_ret (v := .tuple #[cv none 0 0 none 0 0, .iface 51 (I k)]) (by simp [results, Try.results27, go_sem, Q.out.1, Q.out.2]) rfl ⟨rfl, (((Ext.alloc w _).trans hb).set (Nat.le_refl _) _).set (Nat.le_refl _) _⟩
end Go.Proofs.Ytdcollchhcjaaaa
