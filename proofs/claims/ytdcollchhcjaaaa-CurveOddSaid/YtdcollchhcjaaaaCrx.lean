/- Curves: Scale by the code. -/
import Derived.Test.YtdcollchhcjaaaaCrw
import Derived.Deep.OwnRows
import Derived.Lib.SliceRun
namespace Go.Proofs.Ytdcollchhcjaaaa
open Go Go.RowKit

theorem rowIs_ext {w w' : World} {b : Nat} {t : TypeId} {n : Nat} {f : Nat → Value} (h : w.rowIs b t n f) (x : Ext w w') : w'.rowIs b t n f := h.of_block (x.block b h.lt)
theorem rowIs_made' (w : World) (z : Value) (n : Nat) (t : TypeId) {g : Nat} (hg : g = w.heap.size) : (w.alloc (.cells (madeCells #[z] n) t)).rowIs g t n (fun _ => z) := hg ▸ World.rowIs_made w z n t
theorem _root_.Go.World.rowIs.ext {w w' : World} {b : Nat} {t : TypeId} {n : Nat} {f : Nat → Value} (h : w.rowIs b t n f) (x : Ext w w') : w'.rowIs b t n f := rowIs_ext h x
/-- A scaled curve that is being made. -/
structure ScSt (Wc w : World) (p gx cx gy n : Nat) (X : Nat → Int) (Z : Nat → Int) : Prop where
  ext : Ext Wc w
  box : B2 w p (.slice (some ⟨gx, 0, none⟩) n cx) (.slice (some ⟨gy, 0, none⟩) n n)
  rx : Ri w (some ⟨gx, 0, none⟩) n X
  ry : w.rowIs gy 3 n (fun i => I (Z i))
  far : Wc.heap.size ≤ p ∧ Wc.heap.size ≤ gy ∧ Wc.heap.size ≤ gx ∧ p ≠ gy ∧ gx ≠ gy ∧ gx ≠ p
theorem B2.set01 {w : World} {g : Nat} {v0 v1 : Value} (h : B2 w g v0 v1) (z0 z1 : Value) : B2 ((w.setCell ⟨g, 0, none⟩ z0).setCell ⟨g, 1, none⟩ z1) g z0 z1 := by
  obtain ⟨⟨h0, h1⟩, hf⟩ := h
  have q := box_set z0 z1 h0 h1
  refine ⟨⟨?_, q.2⟩, fun i => by go_simp⟩
  have := q.1
  go_simp
theorem Ri.far {w w' : World} {g n : Nat} {f : Nat → Int} (h : Ri w (some ⟨g, 0, none⟩) n f) (hn : 0 < n) (e : w'.heap[g]? = w.heap[g]?) : Ri w' (some ⟨g, 0, none⟩) n f := fun _ => by
  obtain ⟨b, o, eq, hb, hc⟩ := h hn
  cases eq
  have hl' : g < w'.heap.size := by
    rcases Nat.lt_or_ge g w'.heap.size with x | x
    · exact x
    · rw [Array.getElem?_eq_none x, Array.getElem?_eq_getElem hb] at e; cases e
  exact ⟨g, 0, rfl, hl', fun i hi => by rw [World.cell?_of_block e]; exact hc i hi⟩
theorem ScSt.fin {Wc w : World} {p gx cx gy n : Nat} {X Z : Nat → Int} {v0 v1 : Value} (x : Ext Wc w) (b : B2 w p v0 v1) (rx : Ri w (some ⟨gx, 0, none⟩) n X) (ry : w.rowIs gy 3 n (fun i => I (Z i)))
    (far : 0 < n ∧ Wc.heap.size ≤ p ∧ Wc.heap.size ≤ gy ∧ Wc.heap.size ≤ gx ∧ p ≠ gy ∧ gx ≠ gy ∧ gx ≠ p) :
    ScSt Wc ((w.setCell ⟨p, 0, none⟩ (.slice (some ⟨gx, 0, none⟩) n cx)).setCell ⟨p, 1, none⟩ (.slice (some ⟨gy, 0, none⟩) n n)) p gx cx gy n X Z :=
  ⟨(x.set far.2.1 _).set far.2.1 _, b.set01 _ _, rx.far far.1 (box_far _ _ _ _ _ far.2.2.2.2.2.2), ry.of_block (box_far _ _ _ _ _ (Ne.symm far.2.2.2.2.1)), far.2⟩

theorem B2.grown' {w w' : World} {g : Nat} {v0 v1 : Value} (h : B2 w g v0 v1) (e : w'.heap[g]? = w.heap[g]?) : B2 w' g v0 v1 :=
  ⟨⟨by rw [World.cell?_of_block e]; exact h.1.1, by rw [World.cell?_of_block e]; exact h.1.2⟩, fun i => by rw [World.frozen?_of_block e]; exact h.2 i⟩
theorem ScSt.to {Wc w w' : World} {p gx cx gy n : Nat} {X Z : Nat → Int} (h : ScSt Wc w p gx cx gy n X Z) (x : Ext w w') : ScSt Wc w' p gx cx gy n X Z :=
  ⟨h.ext.trans x, h.box.ext x, h.rx.ext x, h.ry.ext x, h.far⟩
def scZ (m : Int) (Y : Nat → Int) (j : Nat) : Nat → Int := fun i => if i < j then scv m (Y i) else 0
theorem ScSt.step {Wc w : World} {p gx cx gy n j : Nat} {X Y : Nat → Int} {m : Int} (h : ScSt Wc w p gx cx gy n X (scZ m Y j)) (hj : j < n) :
    ScSt Wc (w.setCell ⟨gy, j, none⟩ (I (scv m (Y j)))) p gx cx gy n X (scZ m Y (j + 1)) := by
  obtain ⟨f1, f2, f3, f4, f5, f6⟩ := h.far
  refine ⟨h.ext.set f2 _, h.box.grown' (Deep.blk_setCell_other _ ⟨gy, j, none⟩ _ _ f4), h.rx.far (by omega) (Deep.blk_setCell_other _ ⟨gy, j, none⟩ _ _ f5), (h.ry.set j _).congr fun i hi => ?_, h.far⟩
  unfold scZ
  by_cases e : i = j
  · subst e; rw [if_pos rfl, if_pos (by omega)]
  · rw [if_neg e]
    by_cases e2 : i < j
    · rw [if_pos e2, if_pos (by omega)]
    · rw [if_neg e2, if_neg (by omega)]
theorem scZ_0 (m : Int) (Y : Nat → Int) : scZ m Y 0 = fun _ => 0 := by funext i; simp [scZ]
theorem ScSt.rx' {Wc w w' : World} {p gx cx gy n : Nat} {X Z : Nat → Int} (h : ScSt Wc w p gx cx gy n X Z) (hn : 0 < n) (e : w'.heap[gx]? = w.heap[gx]?) : Ri w' (some ⟨gx, 0, none⟩) n X := h.rx.far hn e
theorem ScSt.ry' {Wc w w' : World} {p gx cx gy n : Nat} {X Y : Nat → Int} {m : Int} (h : ScSt Wc w p gx cx gy n X (scZ m Y n)) (e : w'.heap[gy]? = w.heap[gy]?) : Ri w' (some ⟨gy, 0, none⟩) n (fun i => scv m (Y i)) := fun hn => by
  have r := h.ry.of_block e
  refine ⟨gy, 0, rfl, r.lt, fun i hi => ?_⟩
  rw [Nat.zero_add, r.cell hi]
  unfold scZ
  rw [if_pos hi]
/-- What a clone is. -/
def ClPost (n : Nat) (X : Nat → Int) (w : World) (e : Ending) (w' : World) : Prop := ∃ g c', e = .returned (.slice (some ⟨g, 0, none⟩) n c') ∧ w.heap.size ≤ g ∧ Ri w' (some ⟨g, 0, none⟩) n X ∧ Ext w w'
set_option maxRecDepth 100000 in
set_option maxHeartbeats 1000000 in
theorem clone_any {w : World} {ba oa n c : Nat} {X : Nat → Int} (hn0 : 0 < n) (hn : n ≤ 1000) (r : Ri w (some ⟨ba, oa, none⟩) n X) :
    Calls Try.prog 44 #[.slice (some ⟨ba, oa, none⟩) n c] w (ClPost n X w) := by
  have hnews : ∀ j u, (rowL X n)[j]? = some u → (w.alloc (.cells #[] 3)).cell? ((⟨ba, oa, none⟩ : Addr).add j) = some u := by
    intro j u hj
    have hjn : j < n := by
      rcases Nat.lt_or_ge j n with h | h
      · exact h
      · rw [List.getElem?_eq_none (by simp [rowL]; omega)] at hj; cases hj
    obtain ⟨hl, hc⟩ := r.at_ hjn
    have e : u = I (X j) := by simp [rowL, hjn] at hj; exact hj.symm
    subst e
    rw [World.cell?_alloc_lt _ _ _ (by unfold Addr.add; split <;> exact hl)]
    unfold Addr.add; split
    · rename_i h0; subst h0; exact hc
    · exact hc
  have HN := Lib.hid hnews; clear hnews r
  obtain ⟨i0, hi0, hz0, hz1, hz2⟩ := info_parts infoInt
  have hm8 : 0 + n ≤ maxLen := by unfold maxLen; omega
  have hb8 : (0 + n) * 8 ≤ 140737488355328 := by omega
  have HM := Lib.hid hm8; have HB := Lib.hid hb8; clear hm8 hb8
  have hnil : ∀ (w : World) (a : Option Addr) (n c n' c' : Nat), (binOp .eql 22 (.slice a n c) (.slice none n' c')).run Try.prog w = .ok (.bool a.isNone) w := fun w a n c n' c' => Lib.run_eql_slice_nil w _ _ a n c n' c' Try.underlying22
  go_enter Try.func44, Try.ntmps44
  go_wp2_with (at_builtin; refine wpList_append_lies _ rfl _ _ 22 rfl w.heap.size 3 i0 _ 1 8 Try.underlying22 hi0 hz0 hz1 hz2 rfl (by omega) (.slice (some ⟨w.heap.size, 0, none⟩) 0 0) 0 [] rfl (World.ownsRow_made w #[] 0 (Nat.le_refl _) (Nat.zero_le _) rfl) _ n c (rowL X n) rfl (by simp [rowL]) HN.out (by intro u hu; simp [rowL] at hu; obtain ⟨_, _, rfl⟩ := hu; rfl) hn0 HM.out HB.out (by simp) _ rfl ?_; intro g cap w1 hown hgrow hat hlt)
  go_wp2_with fail
  go_ret
  rw [Nat.zero_add, List.nil_append] at hown
  have hx : Ext w w1 := Below.grown (Ext.alloc w _) hgrow (by simp) (fun k hk => by simp [Value.ownBlock] at hk; omega)
  refine ⟨g, cap, rfl, (hown.lt g rfl).1, Ri.of_row hown rfl, hx⟩

set_option maxRecDepth 100000 in
set_option maxHeartbeats 1000000 in
theorem scale_in {w : World} {ba oa c bb ob e n : Nat} {X Y : Nat → Int} (hz : chk n n X Y = 0) (r : Cur w ba oa bb ob n X Y) {m : Int} (h0 : 0 ≤ m) (h1 : m ≤ 131072) :
    Calls Try.prog 32 #[cw ba oa c bb ob e n, I m] w (ScPost n X Y m .nilIface (.iface 51 (I 3)) w) := by
  have k := (crv_of hz).2
  have hn2 := k.two
  have hn := k.le
  have HK := Lib.hid (fun w' (he : Ext w w') => check_ok (c := c) (e := e) hz r w' he)
  have HC := Lib.hid (fun w' (he : Ext ((w.alloc (.cells #[.slice (some ⟨ba, oa, none⟩) n c, .slice (some ⟨bb, ob, none⟩) n e] 24)).alloc (.cells #[.slice none 0 0, .slice none 0 0] 24)) w') => clone_any (c := c) (show 0 < n by omega) (show n ≤ 1000 by omega) ((r.ra).ext (((Ext.alloc w _).trans (Ext.alloc _ _)).trans he)))
  have hba := r.la
  have hbb := r.lb
  have K := Lib.hid k
  have R := Lib.hid r
  have HX : Hid (∀ w', Ext ((w.alloc (.cells #[.slice (some ⟨ba, oa, none⟩) n c, .slice (some ⟨bb, ob, none⟩) n e] 24)).alloc (.cells #[.slice none 0 0, .slice none 0 0] 24)) w' → w'.cell? ⟨w.heap.size, 0, none⟩ = some (.slice (some ⟨ba, oa, none⟩) n c) ∧ w'.cell? ⟨w.heap.size, 1, none⟩ = some (.slice (some ⟨bb, ob, none⟩) n e)) := fun w' x => by
    obtain ⟨xc, _⟩ := x.old
    exact ⟨by rw [xc _ _ (by simp <;> omega)]; go_simp, by rw [xc _ _ (by simp <;> omega)]; go_simp⟩
  clear hz k r
  go_enter Try.func32, Try.ntmps32
  go_upto_region 6 with (go_at_call 17; (with_reducible refine (HK.out _ ((Ext.alloc _ _).trans (Ext.alloc _ _))).mono ?_); rintro e1 w1 ⟨rfl, hb⟩)
  go_cut [7] (fun s wx => ∃ p gx cx gy, s = .pointer (some ⟨p, 0, none⟩) ∧ Hid (ScSt ((w.alloc (.cells #[.slice (some ⟨ba, oa, none⟩) n c, .slice (some ⟨bb, ob, none⟩) n e] 24)).alloc (.cells #[.slice none 0 0, .slice none 0 0] 24)) wx p gx cx gy n X (fun _ => 0)))
  case first =>
    have hmk := run_make_row' 22 3 (I 0) 8 Try.underlying22 infoInt rfl .i64 .i64 n (by omega) (by omega)
    have hs1 := hb.size
    simp at hs1
    refine wp_region_noPanic ?_
    refine wp_region_held_drew (S := fun w' => w'.cell? ⟨w.heap.size, 0, none⟩ = some (.slice (some ⟨ba, oa, none⟩) n c) ∧ w'.cell? ⟨w.heap.size, 1, none⟩ = some (.slice (some ⟨bb, ob, none⟩) n e)) (by rfl) ?_ (fun hHeld => ?_)
    · exact HX.out _ (hb.trans (Ext.drew _))
    have E0 := hb.trans (Ext.drew w1)
    generalize w1.drew = wd at E0 hHeld ⊢
    have hsz := E0.size
    (try simp at hsz)
    refine wpAnyH_take (i := 0) (oi := { dst := some 24, op := Op.fieldAddr 24 (Operand.tmp 2) 0, type := 0, pos := "curve.go:131", after := #[], guard := none }) (v := ?_) rfl (by as_aux_lemma => kernel_rfl) (by as_aux_lemma => kernel_rfl) (by as_aux_lemma => kernel_rfl) (fun _ _ _ h => h) (Or.inl ⟨by rfl, ?hy⟩) hHeld ?_
    case hy => ((intro w' hSw; (try dsimp only at hSw); go_simp); (try with_reducible rfl))
    (try simp only [Act.put, List.setIfInBounds_toArray, List.set_cons_zero, List.set_cons_succ])
    refine wpAnyH_take (i := 1) (oi := { dst := some 25, op := Op.load 22 (Operand.tmp 24), type := 22, pos := "curve.go:131", after := #[{ on := 0, ground := Ground.data }], guard := none }) (v := ?_) rfl (by as_aux_lemma => kernel_rfl) (by as_aux_lemma => kernel_rfl) (by as_aux_lemma => kernel_rfl) (fun _ _ _ h => h) (Or.inl ⟨by rfl, ?hy⟩) hHeld ?_
    case hy => ((intro w' hSw; (try dsimp only at hSw); go_simp); (try with_reducible rfl))
    (try simp only [Act.put, List.setIfInBounds_toArray, List.set_cons_zero, List.set_cons_succ])
    refine wpAnyH_take (i := 3) (oi := { dst := some 27, op := Op.fieldAddr 24 (Operand.tmp 2) 1, type := 0, pos := "curve.go:131", after := #[], guard := none }) (v := ?_) rfl (by as_aux_lemma => kernel_rfl) (by as_aux_lemma => kernel_rfl) (by as_aux_lemma => kernel_rfl) (fun _ _ _ h => h) (Or.inl ⟨by rfl, ?hy⟩) hHeld ?_
    case hy => ((intro w' hSw; (try dsimp only at hSw); go_simp); (try with_reducible rfl))
    (try simp only [Act.put, List.setIfInBounds_toArray, List.set_cons_zero, List.set_cons_succ])
    refine wpAnyH_take (i := 4) (oi := { dst := some 28, op := Op.load 22 (Operand.tmp 27), type := 22, pos := "curve.go:131", after := #[{ on := 3, ground := Ground.data }], guard := none }) (v := ?_) rfl (by as_aux_lemma => kernel_rfl) (by as_aux_lemma => kernel_rfl) (by as_aux_lemma => kernel_rfl) (fun _ _ _ h => h) (Or.inl ⟨by rfl, ?hy⟩) hHeld ?_
    case hy => ((intro w' hSw; (try dsimp only at hSw); go_simp); (try with_reducible rfl))
    (try simp only [Act.put, List.setIfInBounds_toArray, List.set_cons_zero, List.set_cons_succ])
    refine wpAnyH_take (i := 5) (oi := { dst := some 29, op := Op.call { callee := Callee.builtin Builtin.len, args := #[Operand.tmp 28], argTypes := #[22] }, type := 3, pos := "curve.go:131", after := #[{ on := 4, ground := Ground.data }], guard := none }) (v := ?_) rfl (by as_aux_lemma => kernel_rfl) (by as_aux_lemma => kernel_rfl) (by as_aux_lemma => kernel_rfl) (fun _ _ _ h => h) (Or.inl ⟨by rfl, ?hy⟩) hHeld ?_
    case hy => ((intro w' hSw; (try dsimp only at hSw); go_simp); (try with_reducible rfl))
    (try simp only [Act.put, List.setIfInBounds_toArray, List.set_cons_zero, List.set_cons_succ])
    refine wpAnyH_ready (rs := [2, 6, 8]) (by as_aux_lemma => kernel_rfl) (by simp) ?_
    refine AllReadyH.cons (o := { dst := some 26, op := Op.call { callee := Callee.value (Operand.func 44), args := #[Operand.tmp 25], argTypes := #[22] }, type := 22, pos := "curve.go:131", after := #[{ on := 1, ground := Ground.data }], guard := none }) rfl (fun K hK => ?_) ?_
    · go_simp
      (go_at_call 44; (with_reducible refine (HC.out _ E0).mono ?_); rintro e1 wx1 ⟨gx, cx, rfl, hg1, rx1, hx1⟩)
      have hl1 := (rx1.at_ (show 0 < n by omega)).1
      have E1 := E0.trans hx1
      (try go_wp2_with fail)
      refine hK.out _ _ (HX.out _ E1) (fun hHeld' => ?_)
      clear hK K hHeld
      have hHeld := hHeld'
      clear hHeld'
      (try simp only [Act.put, List.setIfInBounds_toArray, List.set_cons_zero, List.set_cons_succ])
      refine wpAnyH_ready (rs := [6, 8]) (by as_aux_lemma => kernel_rfl) (by simp) ?_
      refine AllReadyH.cons (o := { dst := some 30, op := Op.makeSlice 22 (Operand.tmp 29) (Operand.tmp 29), type := 22, pos := "curve.go:131", after := #[{ on := 5, ground := Ground.data }, { on := 5, ground := Ground.data }], guard := none }) rfl (fun K hK => ?_) ?_
      · have rx3 := rx1.ext (Ext.alloc wx1 (.cells (madeCells #[I 0] n) 3))
        have my2 := rowIs_made' wx1 (I 0) n 3 (by simp : wx1.heap.size = _)
        have E2 := E1.trans (Ext.alloc wx1 (.cells (madeCells #[I 0] n) 3))
        go_simp
        refine hK.out _ _ (HX.out _ E2) (fun hHeld' => ?_)
        clear hK K hHeld
        have hHeld := hHeld'
        clear hHeld'
        (try simp only [Act.put, List.setIfInBounds_toArray, List.set_cons_zero, List.set_cons_succ])
        refine wpAnyH_take (i := 7) (oi := { dst := some 31, op := Op.build 24 #[(0, Operand.tmp 26), (1, Operand.tmp 30)], type := 24, pos := "curve.go:131", after := #[{ on := 2, ground := Ground.data }, { on := 6, ground := Ground.data }], guard := none }) (v := ?_) rfl (by as_aux_lemma => kernel_rfl) (by as_aux_lemma => kernel_rfl) (by as_aux_lemma => kernel_rfl) (fun _ _ _ h => h) (Or.inl ⟨by rfl, ?hy⟩) hHeld ?_
        case hy => ((intro w' hSw; (try dsimp only at hSw); go_simp); (try with_reducible rfl))
        (try simp only [Act.put, List.setIfInBounds_toArray, List.set_cons_zero, List.set_cons_succ])
        refine wpAnyH_ready (rs := [8]) (by as_aux_lemma => kernel_rfl) (by simp) ?_
        refine AllReadyH.cons (o := { dst := some 7, op := Op.alloc 24, type := 0, pos := "curve.go:131", after := #[], guard := none }) rfl (fun K hK => ?_) AllReadyH.nil
        have rx5 := rx3.ext (Ext.alloc (wx1.alloc (.cells (madeCells #[I 0] n) 3)) (.cells #[.slice none 0 0, .slice none 0 0] 24))
        have my6 := my2.ext (Ext.alloc (wx1.alloc (.cells (madeCells #[I 0] n) 3)) (.cells #[.slice none 0 0, .slice none 0 0] 24))
        have bx4 := B2.new' (wx1.alloc (.cells (madeCells #[I 0] n) 3)) (.slice none 0 0) (.slice none 0 0) 24 (by simp : wx1.heap.size + 1 = _)
        have E4 := E2.trans (Ext.alloc (wx1.alloc (.cells (madeCells #[I 0] n) 3)) (.cells #[.slice none 0 0, .slice none 0 0] 24))
        go_simp
        refine hK.out _ _ (HX.out _ E4) (fun hHeld' => ?_)
        clear hK K hHeld
        have hHeld := hHeld'
        clear hHeld'
        (try simp only [Act.put, List.setIfInBounds_toArray, List.set_cons_zero, List.set_cons_succ])
        refine wpAnyH_ready (rs := [9]) (by as_aux_lemma => kernel_rfl) (by simp) ?_
        refine AllReadyH.cons (o := { dst := none, op := Op.store 24 (Operand.tmp 7) (Operand.tmp 31), type := 0, pos := "curve.go:131", after := #[{ on := 8, ground := Ground.data }, { on := 7, ground := Ground.data }, { on := 2, ground := Ground.chain }, { on := 0, ground := Ground.phase }, { on := 1, ground := Ground.phase }, { on := 2, ground := Ground.phase }, { on := 3, ground := Ground.phase }, { on := 4, ground := Ground.phase }, { on := 5, ground := Ground.phase }, { on := 6, ground := Ground.phase }, { on := 7, ground := Ground.phase }, { on := 8, ground := Ground.phase }], guard := none }) rfl (fun K hK => ?_) AllReadyH.nil
        generalize ((wx1.alloc (.cells (madeCells #[I 0] n) 3)).alloc (.cells #[.slice none 0 0, .slice none 0 0] 24)) = wz at E4 bx4 rx5 my6 ⊢
        have V7 := ScSt.fin (cx := cx) E4 bx4 rx5 my6 (by clear hHeld HX HC HK; (try clear hmk); have h1 := hx1.size; have h2 := hg1; have h3 := hl1; (try simp at h1); (try simp at h2); (try simp at h3); (try simp); omega)
        have E7 := V7.ext
        obtain ⟨⟨b0, b1⟩, bf⟩ := bx4
        go_simp
        clear b0 b1 bf
        refine hK.out _ _ (HX.out _ E7) (fun hHeld' => ?_)
        clear hK K hHeld
        have hHeld := hHeld'
        clear hHeld'
        (try simp only [Act.put, List.setIfInBounds_toArray, List.set_cons_zero, List.set_cons_succ])
        refine wpAnyH_done (by as_aux_lemma => kernel_rfl) ?_ _
        (try refine NoPanic.normal ?_)
        have VE := Lib.hid V7
        go_wp2_with fail
        go_meet
        exact ⟨_, _, _, _, rfl, VE.out⟩
      refine AllReadyH.cons (o := { dst := some 7, op := Op.alloc 24, type := 0, pos := "curve.go:131", after := #[], guard := none }) rfl (fun K hK => ?_) ?_
      · have rx9 := rx1.ext (Ext.alloc wx1 (.cells #[.slice none 0 0, .slice none 0 0] 24))
        have bx8 := B2.new' wx1 (.slice none 0 0) (.slice none 0 0) 24 (by simp : wx1.heap.size = _)
        have E8 := E1.trans (Ext.alloc wx1 (.cells #[.slice none 0 0, .slice none 0 0] 24))
        go_simp
        refine hK.out _ _ (HX.out _ E8) (fun hHeld' => ?_)
        clear hK K hHeld
        have hHeld := hHeld'
        clear hHeld'
        (try simp only [Act.put, List.setIfInBounds_toArray, List.set_cons_zero, List.set_cons_succ])
        refine wpAnyH_ready (rs := [6]) (by as_aux_lemma => kernel_rfl) (by simp) ?_
        refine AllReadyH.cons (o := { dst := some 30, op := Op.makeSlice 22 (Operand.tmp 29) (Operand.tmp 29), type := 22, pos := "curve.go:131", after := #[{ on := 5, ground := Ground.data }, { on := 5, ground := Ground.data }], guard := none }) rfl (fun K hK => ?_) AllReadyH.nil
        have rx11 := rx9.ext (Ext.alloc (wx1.alloc (.cells #[.slice none 0 0, .slice none 0 0] 24)) (.cells (madeCells #[I 0] n) 3))
        have bx12 := bx8.ext (Ext.alloc (wx1.alloc (.cells #[.slice none 0 0, .slice none 0 0] 24)) (.cells (madeCells #[I 0] n) 3))
        have my10 := rowIs_made' (wx1.alloc (.cells #[.slice none 0 0, .slice none 0 0] 24)) (I 0) n 3 (by simp : wx1.heap.size + 1 = _)
        have E10 := E8.trans (Ext.alloc (wx1.alloc (.cells #[.slice none 0 0, .slice none 0 0] 24)) (.cells (madeCells #[I 0] n) 3))
        go_simp
        refine hK.out _ _ (HX.out _ E10) (fun hHeld' => ?_)
        clear hK K hHeld
        have hHeld := hHeld'
        clear hHeld'
        (try simp only [Act.put, List.setIfInBounds_toArray, List.set_cons_zero, List.set_cons_succ])
        refine wpAnyH_take (i := 7) (oi := { dst := some 31, op := Op.build 24 #[(0, Operand.tmp 26), (1, Operand.tmp 30)], type := 24, pos := "curve.go:131", after := #[{ on := 2, ground := Ground.data }, { on := 6, ground := Ground.data }], guard := none }) (v := ?_) rfl (by as_aux_lemma => kernel_rfl) (by as_aux_lemma => kernel_rfl) (by as_aux_lemma => kernel_rfl) (fun _ _ _ h => h) (Or.inl ⟨by rfl, ?hy⟩) hHeld ?_
        case hy => ((intro w' hSw; (try dsimp only at hSw); go_simp); (try with_reducible rfl))
        (try simp only [Act.put, List.setIfInBounds_toArray, List.set_cons_zero, List.set_cons_succ])
        refine wpAnyH_ready (rs := [9]) (by as_aux_lemma => kernel_rfl) (by simp) ?_
        refine AllReadyH.cons (o := { dst := none, op := Op.store 24 (Operand.tmp 7) (Operand.tmp 31), type := 0, pos := "curve.go:131", after := #[{ on := 8, ground := Ground.data }, { on := 7, ground := Ground.data }, { on := 2, ground := Ground.chain }, { on := 0, ground := Ground.phase }, { on := 1, ground := Ground.phase }, { on := 2, ground := Ground.phase }, { on := 3, ground := Ground.phase }, { on := 4, ground := Ground.phase }, { on := 5, ground := Ground.phase }, { on := 6, ground := Ground.phase }, { on := 7, ground := Ground.phase }, { on := 8, ground := Ground.phase }], guard := none }) rfl (fun K hK => ?_) AllReadyH.nil
        generalize ((wx1.alloc (.cells #[.slice none 0 0, .slice none 0 0] 24)).alloc (.cells (madeCells #[I 0] n) 3)) = wz at E10 bx12 rx11 my10 ⊢
        have V13 := ScSt.fin (cx := cx) E10 bx12 rx11 my10 (by clear hHeld HX HC HK; (try clear hmk); have h1 := hx1.size; have h2 := hg1; have h3 := hl1; (try simp at h1); (try simp at h2); (try simp at h3); (try simp); omega)
        have E13 := V13.ext
        obtain ⟨⟨b0, b1⟩, bf⟩ := bx12
        go_simp
        clear b0 b1 bf
        refine hK.out _ _ (HX.out _ E13) (fun hHeld' => ?_)
        clear hK K hHeld
        have hHeld := hHeld'
        clear hHeld'
        (try simp only [Act.put, List.setIfInBounds_toArray, List.set_cons_zero, List.set_cons_succ])
        refine wpAnyH_done (by as_aux_lemma => kernel_rfl) ?_ _
        (try refine NoPanic.normal ?_)
        have VE := Lib.hid V13
        go_wp2_with fail
        go_meet
        exact ⟨_, _, _, _, rfl, VE.out⟩
      exact AllReadyH.nil
    refine AllReadyH.cons (o := { dst := some 30, op := Op.makeSlice 22 (Operand.tmp 29) (Operand.tmp 29), type := 22, pos := "curve.go:131", after := #[{ on := 5, ground := Ground.data }, { on := 5, ground := Ground.data }], guard := none }) rfl (fun K hK => ?_) ?_
    · have my14 := rowIs_made' wd (I 0) n 3 (by simp : wd.heap.size = _)
      have E14 := E0.trans (Ext.alloc wd (.cells (madeCells #[I 0] n) 3))
      go_simp
      refine hK.out _ _ (HX.out _ E14) (fun hHeld' => ?_)
      clear hK K hHeld
      have hHeld := hHeld'
      clear hHeld'
      (try simp only [Act.put, List.setIfInBounds_toArray, List.set_cons_zero, List.set_cons_succ])
      refine wpAnyH_ready (rs := [2, 8]) (by as_aux_lemma => kernel_rfl) (by simp) ?_
      refine AllReadyH.cons (o := { dst := some 26, op := Op.call { callee := Callee.value (Operand.func 44), args := #[Operand.tmp 25], argTypes := #[22] }, type := 22, pos := "curve.go:131", after := #[{ on := 1, ground := Ground.data }], guard := none }) rfl (fun K hK => ?_) ?_
      · go_simp
        (go_at_call 44; (with_reducible refine (HC.out _ E14).mono ?_); rintro e15 wx15 ⟨gx, cx, rfl, hg15, rx15, hx15⟩)
        have my16 := my14.ext (hx15)
        have hl15 := (rx15.at_ (show 0 < n by omega)).1
        have E15 := E14.trans hx15
        (try go_wp2_with fail)
        refine hK.out _ _ (HX.out _ E15) (fun hHeld' => ?_)
        clear hK K hHeld
        have hHeld := hHeld'
        clear hHeld'
        (try simp only [Act.put, List.setIfInBounds_toArray, List.set_cons_zero, List.set_cons_succ])
        refine wpAnyH_take (i := 7) (oi := { dst := some 31, op := Op.build 24 #[(0, Operand.tmp 26), (1, Operand.tmp 30)], type := 24, pos := "curve.go:131", after := #[{ on := 2, ground := Ground.data }, { on := 6, ground := Ground.data }], guard := none }) (v := ?_) rfl (by as_aux_lemma => kernel_rfl) (by as_aux_lemma => kernel_rfl) (by as_aux_lemma => kernel_rfl) (fun _ _ _ h => h) (Or.inl ⟨by rfl, ?hy⟩) hHeld ?_
        case hy => ((intro w' hSw; (try dsimp only at hSw); go_simp); (try with_reducible rfl))
        (try simp only [Act.put, List.setIfInBounds_toArray, List.set_cons_zero, List.set_cons_succ])
        refine wpAnyH_ready (rs := [8]) (by as_aux_lemma => kernel_rfl) (by simp) ?_
        refine AllReadyH.cons (o := { dst := some 7, op := Op.alloc 24, type := 0, pos := "curve.go:131", after := #[], guard := none }) rfl (fun K hK => ?_) AllReadyH.nil
        have my18 := my16.ext (Ext.alloc wx15 (.cells #[.slice none 0 0, .slice none 0 0] 24))
        have rx19 := rx15.ext (Ext.alloc wx15 (.cells #[.slice none 0 0, .slice none 0 0] 24))
        have bx17 := B2.new' wx15 (.slice none 0 0) (.slice none 0 0) 24 (by simp : wx15.heap.size = _)
        have E17 := E15.trans (Ext.alloc wx15 (.cells #[.slice none 0 0, .slice none 0 0] 24))
        go_simp
        refine hK.out _ _ (HX.out _ E17) (fun hHeld' => ?_)
        clear hK K hHeld
        have hHeld := hHeld'
        clear hHeld'
        (try simp only [Act.put, List.setIfInBounds_toArray, List.set_cons_zero, List.set_cons_succ])
        refine wpAnyH_ready (rs := [9]) (by as_aux_lemma => kernel_rfl) (by simp) ?_
        refine AllReadyH.cons (o := { dst := none, op := Op.store 24 (Operand.tmp 7) (Operand.tmp 31), type := 0, pos := "curve.go:131", after := #[{ on := 8, ground := Ground.data }, { on := 7, ground := Ground.data }, { on := 2, ground := Ground.chain }, { on := 0, ground := Ground.phase }, { on := 1, ground := Ground.phase }, { on := 2, ground := Ground.phase }, { on := 3, ground := Ground.phase }, { on := 4, ground := Ground.phase }, { on := 5, ground := Ground.phase }, { on := 6, ground := Ground.phase }, { on := 7, ground := Ground.phase }, { on := 8, ground := Ground.phase }], guard := none }) rfl (fun K hK => ?_) AllReadyH.nil
        generalize (wx15.alloc (.cells #[.slice none 0 0, .slice none 0 0] 24)) = wz at E17 bx17 rx19 my18 ⊢
        have V20 := ScSt.fin (cx := cx) E17 bx17 rx19 my18 (by clear hHeld HX HC HK; (try clear hmk); have h1 := hx15.size; have h2 := hg15; have h3 := hl15; (try simp at h1); (try simp at h2); (try simp at h3); (try simp); omega)
        have E20 := V20.ext
        obtain ⟨⟨b0, b1⟩, bf⟩ := bx17
        go_simp
        clear b0 b1 bf
        refine hK.out _ _ (HX.out _ E20) (fun hHeld' => ?_)
        clear hK K hHeld
        have hHeld := hHeld'
        clear hHeld'
        (try simp only [Act.put, List.setIfInBounds_toArray, List.set_cons_zero, List.set_cons_succ])
        refine wpAnyH_done (by as_aux_lemma => kernel_rfl) ?_ _
        (try refine NoPanic.normal ?_)
        have VE := Lib.hid V20
        go_wp2_with fail
        go_meet
        exact ⟨_, _, _, _, rfl, VE.out⟩
      refine AllReadyH.cons (o := { dst := some 7, op := Op.alloc 24, type := 0, pos := "curve.go:131", after := #[], guard := none }) rfl (fun K hK => ?_) ?_
      · have my22 := my14.ext (Ext.alloc (wd.alloc (.cells (madeCells #[I 0] n) 3)) (.cells #[.slice none 0 0, .slice none 0 0] 24))
        have bx21 := B2.new' (wd.alloc (.cells (madeCells #[I 0] n) 3)) (.slice none 0 0) (.slice none 0 0) 24 (by simp : wd.heap.size + 1 = _)
        have E21 := E14.trans (Ext.alloc (wd.alloc (.cells (madeCells #[I 0] n) 3)) (.cells #[.slice none 0 0, .slice none 0 0] 24))
        go_simp
        refine hK.out _ _ (HX.out _ E21) (fun hHeld' => ?_)
        clear hK K hHeld
        have hHeld := hHeld'
        clear hHeld'
        (try simp only [Act.put, List.setIfInBounds_toArray, List.set_cons_zero, List.set_cons_succ])
        refine wpAnyH_ready (rs := [2]) (by as_aux_lemma => kernel_rfl) (by simp) ?_
        refine AllReadyH.cons (o := { dst := some 26, op := Op.call { callee := Callee.value (Operand.func 44), args := #[Operand.tmp 25], argTypes := #[22] }, type := 22, pos := "curve.go:131", after := #[{ on := 1, ground := Ground.data }], guard := none }) rfl (fun K hK => ?_) AllReadyH.nil
        go_simp
        (go_at_call 44; (with_reducible refine (HC.out _ E21).mono ?_); rintro e23 wx23 ⟨gx, cx, rfl, hg23, rx23, hx23⟩)
        have my24 := my22.ext (hx23)
        have bx25 := bx21.ext (hx23)
        have hl23 := (rx23.at_ (show 0 < n by omega)).1
        have E23 := E21.trans hx23
        (try go_wp2_with fail)
        refine hK.out _ _ (HX.out _ E23) (fun hHeld' => ?_)
        clear hK K hHeld
        have hHeld := hHeld'
        clear hHeld'
        (try simp only [Act.put, List.setIfInBounds_toArray, List.set_cons_zero, List.set_cons_succ])
        refine wpAnyH_take (i := 7) (oi := { dst := some 31, op := Op.build 24 #[(0, Operand.tmp 26), (1, Operand.tmp 30)], type := 24, pos := "curve.go:131", after := #[{ on := 2, ground := Ground.data }, { on := 6, ground := Ground.data }], guard := none }) (v := ?_) rfl (by as_aux_lemma => kernel_rfl) (by as_aux_lemma => kernel_rfl) (by as_aux_lemma => kernel_rfl) (fun _ _ _ h => h) (Or.inl ⟨by rfl, ?hy⟩) hHeld ?_
        case hy => ((intro w' hSw; (try dsimp only at hSw); go_simp); (try with_reducible rfl))
        (try simp only [Act.put, List.setIfInBounds_toArray, List.set_cons_zero, List.set_cons_succ])
        refine wpAnyH_ready (rs := [9]) (by as_aux_lemma => kernel_rfl) (by simp) ?_
        refine AllReadyH.cons (o := { dst := none, op := Op.store 24 (Operand.tmp 7) (Operand.tmp 31), type := 0, pos := "curve.go:131", after := #[{ on := 8, ground := Ground.data }, { on := 7, ground := Ground.data }, { on := 2, ground := Ground.chain }, { on := 0, ground := Ground.phase }, { on := 1, ground := Ground.phase }, { on := 2, ground := Ground.phase }, { on := 3, ground := Ground.phase }, { on := 4, ground := Ground.phase }, { on := 5, ground := Ground.phase }, { on := 6, ground := Ground.phase }, { on := 7, ground := Ground.phase }, { on := 8, ground := Ground.phase }], guard := none }) rfl (fun K hK => ?_) AllReadyH.nil
        generalize wx23 = wz at E23 bx25 rx23 my24 ⊢
        have V26 := ScSt.fin (cx := cx) E23 bx25 rx23 my24 (by clear hHeld HX HC HK; (try clear hmk); have h1 := hx23.size; have h2 := hg23; have h3 := hl23; (try simp at h1); (try simp at h2); (try simp at h3); (try simp); omega)
        have E26 := V26.ext
        obtain ⟨⟨b0, b1⟩, bf⟩ := bx25
        go_simp
        clear b0 b1 bf
        refine hK.out _ _ (HX.out _ E26) (fun hHeld' => ?_)
        clear hK K hHeld
        have hHeld := hHeld'
        clear hHeld'
        (try simp only [Act.put, List.setIfInBounds_toArray, List.set_cons_zero, List.set_cons_succ])
        refine wpAnyH_done (by as_aux_lemma => kernel_rfl) ?_ _
        (try refine NoPanic.normal ?_)
        have VE := Lib.hid V26
        go_wp2_with fail
        go_meet
        exact ⟨_, _, _, _, rfl, VE.out⟩
      exact AllReadyH.nil
    refine AllReadyH.cons (o := { dst := some 7, op := Op.alloc 24, type := 0, pos := "curve.go:131", after := #[], guard := none }) rfl (fun K hK => ?_) ?_
    · have bx27 := B2.new' wd (.slice none 0 0) (.slice none 0 0) 24 (by simp : wd.heap.size = _)
      have E27 := E0.trans (Ext.alloc wd (.cells #[.slice none 0 0, .slice none 0 0] 24))
      go_simp
      refine hK.out _ _ (HX.out _ E27) (fun hHeld' => ?_)
      clear hK K hHeld
      have hHeld := hHeld'
      clear hHeld'
      (try simp only [Act.put, List.setIfInBounds_toArray, List.set_cons_zero, List.set_cons_succ])
      refine wpAnyH_ready (rs := [2, 6]) (by as_aux_lemma => kernel_rfl) (by simp) ?_
      refine AllReadyH.cons (o := { dst := some 26, op := Op.call { callee := Callee.value (Operand.func 44), args := #[Operand.tmp 25], argTypes := #[22] }, type := 22, pos := "curve.go:131", after := #[{ on := 1, ground := Ground.data }], guard := none }) rfl (fun K hK => ?_) ?_
      · go_simp
        (go_at_call 44; (with_reducible refine (HC.out _ E27).mono ?_); rintro e28 wx28 ⟨gx, cx, rfl, hg28, rx28, hx28⟩)
        have bx29 := bx27.ext (hx28)
        have hl28 := (rx28.at_ (show 0 < n by omega)).1
        have E28 := E27.trans hx28
        (try go_wp2_with fail)
        refine hK.out _ _ (HX.out _ E28) (fun hHeld' => ?_)
        clear hK K hHeld
        have hHeld := hHeld'
        clear hHeld'
        (try simp only [Act.put, List.setIfInBounds_toArray, List.set_cons_zero, List.set_cons_succ])
        refine wpAnyH_ready (rs := [6]) (by as_aux_lemma => kernel_rfl) (by simp) ?_
        refine AllReadyH.cons (o := { dst := some 30, op := Op.makeSlice 22 (Operand.tmp 29) (Operand.tmp 29), type := 22, pos := "curve.go:131", after := #[{ on := 5, ground := Ground.data }, { on := 5, ground := Ground.data }], guard := none }) rfl (fun K hK => ?_) AllReadyH.nil
        have bx31 := bx29.ext (Ext.alloc wx28 (.cells (madeCells #[I 0] n) 3))
        have rx32 := rx28.ext (Ext.alloc wx28 (.cells (madeCells #[I 0] n) 3))
        have my30 := rowIs_made' wx28 (I 0) n 3 (by simp : wx28.heap.size = _)
        have E30 := E28.trans (Ext.alloc wx28 (.cells (madeCells #[I 0] n) 3))
        go_simp
        refine hK.out _ _ (HX.out _ E30) (fun hHeld' => ?_)
        clear hK K hHeld
        have hHeld := hHeld'
        clear hHeld'
        (try simp only [Act.put, List.setIfInBounds_toArray, List.set_cons_zero, List.set_cons_succ])
        refine wpAnyH_take (i := 7) (oi := { dst := some 31, op := Op.build 24 #[(0, Operand.tmp 26), (1, Operand.tmp 30)], type := 24, pos := "curve.go:131", after := #[{ on := 2, ground := Ground.data }, { on := 6, ground := Ground.data }], guard := none }) (v := ?_) rfl (by as_aux_lemma => kernel_rfl) (by as_aux_lemma => kernel_rfl) (by as_aux_lemma => kernel_rfl) (fun _ _ _ h => h) (Or.inl ⟨by rfl, ?hy⟩) hHeld ?_
        case hy => ((intro w' hSw; (try dsimp only at hSw); go_simp); (try with_reducible rfl))
        (try simp only [Act.put, List.setIfInBounds_toArray, List.set_cons_zero, List.set_cons_succ])
        refine wpAnyH_ready (rs := [9]) (by as_aux_lemma => kernel_rfl) (by simp) ?_
        refine AllReadyH.cons (o := { dst := none, op := Op.store 24 (Operand.tmp 7) (Operand.tmp 31), type := 0, pos := "curve.go:131", after := #[{ on := 8, ground := Ground.data }, { on := 7, ground := Ground.data }, { on := 2, ground := Ground.chain }, { on := 0, ground := Ground.phase }, { on := 1, ground := Ground.phase }, { on := 2, ground := Ground.phase }, { on := 3, ground := Ground.phase }, { on := 4, ground := Ground.phase }, { on := 5, ground := Ground.phase }, { on := 6, ground := Ground.phase }, { on := 7, ground := Ground.phase }, { on := 8, ground := Ground.phase }], guard := none }) rfl (fun K hK => ?_) AllReadyH.nil
        generalize (wx28.alloc (.cells (madeCells #[I 0] n) 3)) = wz at E30 bx31 rx32 my30 ⊢
        have V33 := ScSt.fin (cx := cx) E30 bx31 rx32 my30 (by clear hHeld HX HC HK; (try clear hmk); have h1 := hx28.size; have h2 := hg28; have h3 := hl28; (try simp at h1); (try simp at h2); (try simp at h3); (try simp); omega)
        have E33 := V33.ext
        obtain ⟨⟨b0, b1⟩, bf⟩ := bx31
        go_simp
        clear b0 b1 bf
        refine hK.out _ _ (HX.out _ E33) (fun hHeld' => ?_)
        clear hK K hHeld
        have hHeld := hHeld'
        clear hHeld'
        (try simp only [Act.put, List.setIfInBounds_toArray, List.set_cons_zero, List.set_cons_succ])
        refine wpAnyH_done (by as_aux_lemma => kernel_rfl) ?_ _
        (try refine NoPanic.normal ?_)
        have VE := Lib.hid V33
        go_wp2_with fail
        go_meet
        exact ⟨_, _, _, _, rfl, VE.out⟩
      refine AllReadyH.cons (o := { dst := some 30, op := Op.makeSlice 22 (Operand.tmp 29) (Operand.tmp 29), type := 22, pos := "curve.go:131", after := #[{ on := 5, ground := Ground.data }, { on := 5, ground := Ground.data }], guard := none }) rfl (fun K hK => ?_) ?_
      · have bx35 := bx27.ext (Ext.alloc (wd.alloc (.cells #[.slice none 0 0, .slice none 0 0] 24)) (.cells (madeCells #[I 0] n) 3))
        have my34 := rowIs_made' (wd.alloc (.cells #[.slice none 0 0, .slice none 0 0] 24)) (I 0) n 3 (by simp : wd.heap.size + 1 = _)
        have E34 := E27.trans (Ext.alloc (wd.alloc (.cells #[.slice none 0 0, .slice none 0 0] 24)) (.cells (madeCells #[I 0] n) 3))
        go_simp
        refine hK.out _ _ (HX.out _ E34) (fun hHeld' => ?_)
        clear hK K hHeld
        have hHeld := hHeld'
        clear hHeld'
        (try simp only [Act.put, List.setIfInBounds_toArray, List.set_cons_zero, List.set_cons_succ])
        refine wpAnyH_ready (rs := [2]) (by as_aux_lemma => kernel_rfl) (by simp) ?_
        refine AllReadyH.cons (o := { dst := some 26, op := Op.call { callee := Callee.value (Operand.func 44), args := #[Operand.tmp 25], argTypes := #[22] }, type := 22, pos := "curve.go:131", after := #[{ on := 1, ground := Ground.data }], guard := none }) rfl (fun K hK => ?_) AllReadyH.nil
        go_simp
        (go_at_call 44; (with_reducible refine (HC.out _ E34).mono ?_); rintro e36 wx36 ⟨gx, cx, rfl, hg36, rx36, hx36⟩)
        have bx37 := bx35.ext (hx36)
        have my38 := my34.ext (hx36)
        have hl36 := (rx36.at_ (show 0 < n by omega)).1
        have E36 := E34.trans hx36
        (try go_wp2_with fail)
        refine hK.out _ _ (HX.out _ E36) (fun hHeld' => ?_)
        clear hK K hHeld
        have hHeld := hHeld'
        clear hHeld'
        (try simp only [Act.put, List.setIfInBounds_toArray, List.set_cons_zero, List.set_cons_succ])
        refine wpAnyH_take (i := 7) (oi := { dst := some 31, op := Op.build 24 #[(0, Operand.tmp 26), (1, Operand.tmp 30)], type := 24, pos := "curve.go:131", after := #[{ on := 2, ground := Ground.data }, { on := 6, ground := Ground.data }], guard := none }) (v := ?_) rfl (by as_aux_lemma => kernel_rfl) (by as_aux_lemma => kernel_rfl) (by as_aux_lemma => kernel_rfl) (fun _ _ _ h => h) (Or.inl ⟨by rfl, ?hy⟩) hHeld ?_
        case hy => ((intro w' hSw; (try dsimp only at hSw); go_simp); (try with_reducible rfl))
        (try simp only [Act.put, List.setIfInBounds_toArray, List.set_cons_zero, List.set_cons_succ])
        refine wpAnyH_ready (rs := [9]) (by as_aux_lemma => kernel_rfl) (by simp) ?_
        refine AllReadyH.cons (o := { dst := none, op := Op.store 24 (Operand.tmp 7) (Operand.tmp 31), type := 0, pos := "curve.go:131", after := #[{ on := 8, ground := Ground.data }, { on := 7, ground := Ground.data }, { on := 2, ground := Ground.chain }, { on := 0, ground := Ground.phase }, { on := 1, ground := Ground.phase }, { on := 2, ground := Ground.phase }, { on := 3, ground := Ground.phase }, { on := 4, ground := Ground.phase }, { on := 5, ground := Ground.phase }, { on := 6, ground := Ground.phase }, { on := 7, ground := Ground.phase }, { on := 8, ground := Ground.phase }], guard := none }) rfl (fun K hK => ?_) AllReadyH.nil
        generalize wx36 = wz at E36 bx37 rx36 my38 ⊢
        have V39 := ScSt.fin (cx := cx) E36 bx37 rx36 my38 (by clear hHeld HX HC HK; (try clear hmk); have h1 := hx36.size; have h2 := hg36; have h3 := hl36; (try simp at h1); (try simp at h2); (try simp at h3); (try simp); omega)
        have E39 := V39.ext
        obtain ⟨⟨b0, b1⟩, bf⟩ := bx37
        go_simp
        clear b0 b1 bf
        refine hK.out _ _ (HX.out _ E39) (fun hHeld' => ?_)
        clear hK K hHeld
        have hHeld := hHeld'
        clear hHeld'
        (try simp only [Act.put, List.setIfInBounds_toArray, List.set_cons_zero, List.set_cons_succ])
        refine wpAnyH_done (by as_aux_lemma => kernel_rfl) ?_ _
        (try refine NoPanic.normal ?_)
        have VE := Lib.hid V39
        go_wp2_with fail
        go_meet
        exact ⟨_, _, _, _, rfl, VE.out⟩
      exact AllReadyH.nil
    exact AllReadyH.nil
  case rest =>
    obtain ⟨p, gx, cx, gy, rfl, ST⟩ := hcut
    have HYX : Hid (∀ w', Ext ((w.alloc (.cells #[.slice (some ⟨ba, oa, none⟩) n c, .slice (some ⟨bb, ob, none⟩) n e] 24)).alloc (.cells #[.slice none 0 0, .slice none 0 0] 24)) w' → ∀ i, i < n → w'.cell? ⟨bb, ob + i, none⟩ = some (I (Y i))) := fun w' x i hi => (R.out.ext (((Ext.alloc w _).trans (Ext.alloc _ _)).trans x)).cb i hi
    obtain ⟨c0, c1⟩ := HX.out _ ST.out.ext
    have ST0 := Lib.hid (show ScSt ((w.alloc (.cells #[.slice (some ⟨ba, oa, none⟩) n c, .slice (some ⟨bb, ob, none⟩) n e] 24)).alloc (.cells #[.slice none 0 0, .slice none 0 0] 24)) wc p gx cx gy n X (scZ m Y 0) by rw [scZ_0]; exact ST.out)
    clear ST
    go_wp2_with fail
    go_loopw [35] (fun s wr => ∃ j : Nat, j ≤ n ∧ s = I j ∧ Hid (ScSt ((w.alloc (.cells #[.slice (some ⟨ba, oa, none⟩) n c, .slice (some ⟨bb, ob, none⟩) n e] 24)).alloc (.cells #[.slice none 0 0, .slice none 0 0] 24)) wr p gx cx gy n X (scZ m Y j)) ∧ Hid (∀ i, i < j → out30 (scv m (Y i)) = false)) (fun s _ => n - (intOf s).toNat)
    case atStart => exact ⟨0, Nat.zero_le _, rfl, ST0, fun i hi => absurd hi (by omega)⟩
    case round =>
      clear c0 c1
      obtain ⟨j, hj, rfl, ST, HB2⟩ := hrel
      obtain ⟨c0, c1⟩ := HX.out _ ST.out.ext
      obtain ⟨⟨d0, d1⟩, df⟩ := ST.out.box
      obtain ⟨f1, f2, f3, f4, f5, f6⟩ := ST.out.far
      have hsz := ST.out.ext.size
      simp at hsz f1 f2 f3
      by_cases hlt : j < n
      · have yj := HYX.out _ ST.out.ext j hlt
        have r1 := ST.out.ry.cell hlt
        have rf := ST.out.ry.frozen j
        obtain ⟨y1, y2⟩ := K.out.bY j hlt
        obtain ⟨e1, e2⟩ := scv_bd h0 h1 y1 y2
        have S1 := ST.out.step hlt
        obtain ⟨z, hz2⟩ : ∃ z, scv m (Y j) = z := ⟨_, rfl⟩
        rw [hz2] at e2 S1
        have S2 := Lib.hid S1; clear S1
        have e3 : (Y j * m).tdiv 65536 = z := hz2
        have HZ2 := Lib.hid hz2
        clear hz2
        obtain ⟨b, hob⟩ : ∃ b, out30 z = b := ⟨_, rfl⟩
        have HO := Lib.hid (fun w' => outside_is hob w')
        have HOB := Lib.hid hob
        clear hob
        cases b with
        | true =>
          go_wp2_with (go_at_call 35; (with_reducible refine (HO.out _).mono ?_); rintro e9 w2 ⟨rfl, hx2⟩; have S3 := Lib.hid (S2.out.to hx2); obtain ⟨⟨r0, r1⟩, rr⟩ := (B2.new' (w.alloc (.cells #[.slice (some ⟨ba, oa, none⟩) n c, .slice (some ⟨bb, ob, none⟩) n e] 24)) (.slice none 0 0) (.slice none 0 0) 24 (by simp : w.heap.size + 1 = _)).ext S3.out.ext; have Q := Lib.hid (box_set (.slice none 0 0) (.slice none 0 0) r0 r1); clear hx2)
          exact bodyPost_ret (v := .tuple #[cv none 0 0 none 0 0, .iface 51 (I 3)]) (by simp [results, Try.results32, go_sem, Q.out.1, Q.out.2]) rfl (.inr ⟨⟨j, hlt, by rw [HZ2.out]; exact HOB.out⟩, rfl, ((((Ext.alloc w _).trans (Ext.alloc _ _)).trans S3.out.ext).set (by show w.heap.size ≤ w.heap.size + 1; omega) _).set (by show w.heap.size ≤ w.heap.size + 1; omega) _⟩)
        | false =>
          have HB3 : Hid (∀ i, i < j + 1 → out30 (scv m (Y i)) = false) := fun i hi => by
            by_cases h : i = j
            · subst h; rw [HZ2.out]; exact HOB.out
            · exact HB2.out i (by omega)
          go_wp2_with (go_at_call 35; (with_reducible refine (HO.out _).mono ?_); rintro e9 w2 ⟨rfl, hx2⟩; have S3 := Lib.hid (S2.out.to hx2); obtain ⟨⟨r0, r1⟩, rr⟩ := (B2.new' (w.alloc (.cells #[.slice (some ⟨ba, oa, none⟩) n c, .slice (some ⟨bb, ob, none⟩) n e] 24)) (.slice none 0 0) (.slice none 0 0) 24 (by simp : w.heap.size + 1 = _)).ext S3.out.ext; have Q := Lib.hid (box_set (.slice none 0 0) (.slice none 0 0) r0 r1); clear hx2)
          go_roundw
          case rel => exact ⟨j + 1, by omega, by go_num, S3, HB3⟩
          case measure => simp [intOf]; omega
      · obtain rfl : j = n := by omega
        obtain ⟨⟨r0, r1⟩, rf⟩ := (B2.new' (w.alloc (.cells #[.slice (some ⟨ba, oa, none⟩) j c, .slice (some ⟨bb, ob, none⟩) j e] 24)) (.slice none 0 0) (.slice none 0 0) 24 (by simp : w.heap.size + 1 = _)).ext ST.out.ext
        have Q := Lib.hid (box_set (.slice (some ⟨gx, 0, none⟩) j cx) (.slice (some ⟨gy, 0, none⟩) j j) r0 r1)
        go_wp2_with fail
        exact bodyPost_ret (v := .tuple #[cv (some ⟨gx, 0, none⟩) j cx (some ⟨gy, 0, none⟩) j j, .nilIface]) (by simp [results, Try.results32, go_sem, Q.out.1, Q.out.2]) rfl (.inl ⟨HB2.out, _, _, _, _, rfl, ⟨by omega, by omega⟩, ScSt.rx' ST.out (by omega) (box_far _ _ _ _ _ (by omega)), ScSt.ry' ST.out (box_far _ _ _ _ _ (by omega)), ((((Ext.alloc w _).trans (Ext.alloc _ _)).trans ST.out.ext).set (by show w.heap.size ≤ w.heap.size + 1; omega) _).set (by show w.heap.size ≤ w.heap.size + 1; omega) _⟩)
end Go.Proofs.Ytdcollchhcjaaaa
