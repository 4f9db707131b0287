/- Curves: Scale by the reference. -/
import Derived.Test.YtdcollchhcjaaaaCrvl
import Derived.Test.YtdcollchhcjaaaaDap
namespace Go.Proofs.Ytdcollchhcjaaaa
open Go Go.RowKit

theorem infoInt : (Try.prog.info? 3).map (fun i => (i.zero, i.size, i.bytes)) = some (some (.int .i64 0), 1, 8) := by kernel_rfl
def scv (m y : Int) : Int := (y * m).tdiv 65536
def rowL (f : Nat → Int) (k : Nat) : List Value := (List.range k).map fun i => I (f i)
theorem rowL_succ (f : Nat → Int) (k : Nat) : rowL f (k + 1) = rowL f k ++ [I (f k)] := by simp [rowL, List.range_succ]
theorem scv_bd {m y : Int} (h0 : 0 ≤ m) (h1 : m ≤ 131072) (h2 : -1073741824 ≤ y) (h3 : y ≤ 1073741824) : wrap64 (y * m) = y * m ∧ wrap64 (scv m y) = scv m y := by
  have t := mul_bd (a := y) (b := m) (A := 1073741824) (B := 131072) (by omega) (by omega) h0 h1
  have e := Int.mul_tdiv_add_tmod (y * m) 65536
  have f1 := Int.tmod_lt_of_pos (y * m) (show (0 : Int) < 65536 by decide)
  have f2 : -65536 < (y * m).tmod 65536 := by
    rcases Int.le_total 0 (y * m) with h | h
    · have := Int.tmod_nonneg (65536 : Int) h; omega
    · have g := Int.tmod_lt_of_pos (-(y * m)) (show (0 : Int) < 65536 by decide)
      rw [Int.neg_tmod] at g; omega
  unfold scv
  exact ⟨wrap_id (by omega) (by omega), wrap_id (by omega) (by omega)⟩
theorem B2.new' {g : Nat} (w : World) (v0 v1 : Value) (t : TypeId) (hg : g = w.heap.size) : B2 (w.alloc (.cells #[v0, v1] t)) g v0 v1 := hg ▸ B2.new w v0 v1 t
theorem Ri.of_row {w w' : World} {B t g n cap : Nat} {f : Nat → Int} (h : w.ownsRow B t 1 (.slice (some ⟨g, 0, none⟩) n cap) n (rowL f n)) (e : w'.heap[g]? = w.heap[g]?) : Ri w' (some ⟨g, 0, none⟩) n f := fun hn => by
  have hl : g < w.heap.size := (h.lt g rfl).2
  have hl' : g < w'.heap.size := by
    rcases Nat.lt_or_ge g w'.heap.size with x | x
    · exact x
    · rw [Array.getElem?_eq_none x, Array.getElem?_eq_getElem hl] at e; cases e
  refine ⟨g, 0, rfl, hl', fun i hi => ?_⟩
  rw [World.cell?_of_block e, Nat.zero_add, h.cellAt i (by omega)]
  simp [rowL, hi]
theorem box_set {w : World} {g : Nat} {v0 v1 : Value} (z0 z1 : Value) (h0 : w.cell? ⟨g, 0, none⟩ = some v0) (h1 : w.cell? ⟨g, 1, none⟩ = some v1) :
    (w.setCell ⟨g, 0, none⟩ z0).cell? ⟨g, 0, none⟩ = some z0 ∧ ((w.setCell ⟨g, 0, none⟩ z0).setCell ⟨g, 1, none⟩ z1).cell? ⟨g, 1, none⟩ = some z1 := by
  have q : (w.setCell ⟨g, 0, none⟩ z0).cell? ⟨g, 1, none⟩ = some v1 := by go_simp
  exact ⟨by go_simp, by go_simp⟩
theorem box_far (w : World) (g k : Nat) (z0 z1 : Value) (h : k ≠ g) : ((w.setCell ⟨g, 0, none⟩ z0).setCell ⟨g, 1, none⟩ z1).heap[k]? = w.heap[k]? := by
  rw [Deep.blk_setCell_other _ ⟨g, 1, none⟩ z1 k h, Deep.blk_setCell_other _ ⟨g, 0, none⟩ z0 k h]
/-- A curve in new memory, with the error er. -/
def CvOk (n : Nat) (X Z : Nat → Int) (er : Value) (w : World) (e : Ending) (w' : World) : Prop :=
  ∃ gA ca gB cb, e = .returned (.tuple #[cv (some ⟨gA, 0, none⟩) n ca (some ⟨gB, 0, none⟩) n cb, er]) ∧ (w.heap.size ≤ gA ∧ w.heap.size ≤ gB) ∧ Ri w' (some ⟨gA, 0, none⟩) n X ∧ Ri w' (some ⟨gB, 0, none⟩) n Z ∧ Ext w w'

/-- Scale's answer: the curve, or the error er where a value is too large. -/
def ScPost (n : Nat) (X Y : Nat → Int) (m : Int) (e0 e3 : Value) (w : World) (e : Ending) (w' : World) : Prop :=
  ((∀ i, i < n → out30 (scv m (Y i)) = false) ∧ CvOk n X (fun i => scv m (Y i)) e0 w e w') ∨
  ((∃ i, i < n ∧ out30 (scv m (Y i)) = true) ∧ e = .returned (.tuple #[cv none 0 0 none 0 0, e3]) ∧ Ext w w')

set_option maxRecDepth 100000 in
set_option maxHeartbeats 4000000 in
theorem rscale_in {w : World} {ba oa c bb ob e n : Nat} {X Y : Nat → Int} (k : Crv n X Y) (r : Cur w ba oa bb ob n X Y) {m : Int} (h0 : 0 ≤ m) (h1 : m ≤ 131072) :
    Calls Try.prog 33 #[cw ba oa c bb ob e n, I m] w (ScPost n X Y m (I 0) (I 3) w) := by
  have hn := k.le
  have hba := r.la
  have hbb := r.lb
  have ha2 : ba < w.heap.size + 1 := by omega
  have hb2 : bb < w.heap.size + 1 := by omega
  have ha3 : ba ≠ w.heap.size := by omega
  have hb3 : bb ≠ w.heap.size := by omega
  have K := Lib.hid k
  have R := Lib.hid r
  clear k r
  go_enter Try.func33, Try.ntmps33
  go_wp2_with fail
  go_loopw [7] (fun s wr => ∃ (j : Nat) (u v : Value), j ≤ n ∧ s = I j ∧ Two2 ((w.alloc (.cells #[.slice (some ⟨ba, oa, none⟩) n c, .slice (some ⟨bb, ob, none⟩) n e] 24)).alloc (.cells #[.slice none 0 0, .slice none 0 0] 24)) (w.heap.size + 1 + 1) (w.heap.size + 1 + 1 + 1) 3 wr u v u v j j (rowL X j) (rowL (fun i => scv m (Y i)) j) ∧ Hid (∀ i, i < j → out30 (scv m (Y i)) = false)) (fun s _ => n - (intOf s).toNat)
  case atStart => exact ⟨0, _, _, Nat.zero_le _, rfl, ⟨Ext.alloc _ _, B2.new' _ _ _ _ (by simp), World.ownsRow_nil _ _ _ _, World.ownsRow_nil _ _ _ _, .inl rfl, by simp⟩, fun i hi => absurd hi (by omega)⟩
  case round =>
    obtain ⟨j, u, v, hj, rfl, D, HB2⟩ := hrel
    obtain ⟨⟨c0, c1⟩, cf⟩ := D.box
    have hb := D.ext
    obtain ⟨hc, hf⟩ := hb.old
    have g0 := R.out
    by_cases hlt : j < n
    · have xj := g0.ca j hlt
      have yj := g0.cb j hlt
      obtain ⟨y1, y2⟩ := K.out.bY j hlt
      obtain ⟨e1, e2⟩ := scv_bd h0 h1 y1 y2
      obtain ⟨z, hz2⟩ : ∃ z, scv m (Y j) = z := ⟨_, rfl⟩
      rw [hz2] at e2
      have e3 : (Y j * m).tdiv 65536 = z := hz2
      by_cases hz : z < -1073741824 ∨ 1073741824 < z
      · have HZ := Lib.hid (show out30 (scv m (Y j)) = true by rw [hz2]; simp [out30]; omega)
        obtain ⟨⟨r0, r1⟩, rf⟩ := (B2.new' (w.alloc (.cells #[.slice (some ⟨ba, oa, none⟩) n c, .slice (some ⟨bb, ob, none⟩) n e] 24)) (.slice none 0 0) (.slice none 0 0) 24 (by simp : w.heap.size + 1 = _)).ext hb
        have Q := Lib.hid (box_set (.slice none 0 0) (.slice none 0 0) r0 r1)
        have E0 := Lib.hid D.ext
        clear g0 D hz2 HB2
        rcases hz with hz | hz
        · go_wp2_with fail
          exact bodyPost_ret (v := .tuple #[cv none 0 0 none 0 0, I 3]) (by simp [results, Try.results33, go_sem, Q.out.1, Q.out.2]) rfl (.inr ⟨⟨j, hlt, HZ.out⟩, rfl, ((((Ext.alloc w _).trans (Ext.alloc _ _)).trans E0.out).set (by show w.heap.size ≤ w.heap.size + 1; omega) _).set (by show w.heap.size ≤ w.heap.size + 1; omega) _⟩)
        · have hz' : ¬ z < -1073741824 := by omega
          go_wp2_with fail
          exact bodyPost_ret (v := .tuple #[cv none 0 0 none 0 0, I 3]) (by simp [results, Try.results33, go_sem, Q.out.1, Q.out.2]) rfl (.inr ⟨⟨j, hlt, HZ.out⟩, rfl, ((((Ext.alloc w _).trans (Ext.alloc _ _)).trans E0.out).set (by show w.heap.size ≤ w.heap.size + 1; omega) _).set (by show w.heap.size ≤ w.heap.size + 1; omega) _⟩)
      obtain ⟨z1, z2⟩ : ¬ z < -1073741824 ∧ ¬ 1073741824 < z := by omega
      have HB3 : Hid (∀ i, i < j + 1 → out30 (scv m (Y i)) = false) := fun i hi => by
        by_cases h : i = j
        · subst h; rw [hz2]; simp [out30]; omega
        · exact HB2.out i (by omega)
      have HZ := Lib.hid hz2
      have HX : Hid (∀ w', Ext ((w.alloc (.cells #[.slice (some ⟨ba, oa, none⟩) n c, .slice (some ⟨bb, ob, none⟩) n e] 24)).alloc (.cells #[.slice none 0 0, .slice none 0 0] 24)) w' → w'.cell? ⟨w.heap.size, 0, none⟩ = some (.slice (some ⟨ba, oa, none⟩) n c) ∧ w'.cell? ⟨ba, oa + j, none⟩ = some (I (X j))) := fun w' x => by
        obtain ⟨xc, _⟩ := x.old
        exact ⟨by rw [xc _ _ (by simp <;> omega)]; go_simp, by rw [xc _ _ (by simp <;> omega)]; clear hc hf xc; go_simp⟩
      clear hz hz2 g0 HB2
      go_wp2_with fail
      clear hc hf hb c0 c1 cf
      have hm8 : j + 1 ≤ maxLen := by unfold maxLen; omega
      have hb8 : (j + 1) * 8 ≤ 140737488355328 := by omega
      obtain ⟨i0, hi0, hz0, hz1, hz2⟩ := info_parts infoInt
      refine wp_region_noPanic ?_
      refine Gated.begin (S := SG (fun w' => w'.cell? ⟨w.heap.size, 0, none⟩ = some (.slice (some ⟨ba, oa, none⟩) n c) ∧ w'.cell? ⟨ba, oa + j, none⟩ = some (I (X j))) 15 17 ⟨w.heap.size + 1 + 1, 0, none⟩ ⟨w.heap.size + 1 + 1, 1, none⟩ u v) (by rfl) ?_
      have D0 := D.drew
      (try simp only [Act.put, List.setIfInBounds_toArray, List.set_cons_zero, List.set_cons_succ])
      refine Gated.take (i := 0) (o := { dst := some 39, op := Op.fieldAddr 24 (Operand.tmp 6) 0, type := 0, pos := "ref.go:159", after := #[], guard := none }) (v := ?_) rfl (by as_aux_lemma => kernel_rfl) (by as_aux_lemma => kernel_rfl) (by as_aux_lemma => kernel_rfl) (fun _ _ _ h => h) (tillH (by decide) (by decide)) trivial (Or.inl ⟨by rfl, ?hy⟩) ⟨HX.out _ D0.ext, (fun _ => D0.box.1.1), (fun _ => D0.box.1.2)⟩ ?_
      case hy => ((intro w' hSw; (try dsimp only at hSw); go_simp); (try with_reducible rfl))
      (try simp only [Act.put, List.setIfInBounds_toArray, List.set_cons_zero, List.set_cons_succ])
      refine Gated.take (i := 1) (o := { dst := some 40, op := Op.load 22 (Operand.tmp 39), type := 22, pos := "ref.go:159", after := #[{ on := 0, ground := Ground.data }], guard := none }) (v := ?_) rfl (by as_aux_lemma => kernel_rfl) (by as_aux_lemma => kernel_rfl) (by as_aux_lemma => kernel_rfl) (fun _ _ _ h => h) (till0 (by decide) (by decide) rfl (by as_aux_lemma => kernel_rfl)) (by as_aux_lemma => kernel_rfl) (Or.inl ⟨by rfl, ?hy⟩) ⟨HX.out _ D0.ext, (fun _ => D0.box.1.1), (fun _ => D0.box.1.2)⟩ ?_
      case hy => ((intro w' hSw; (try dsimp only at hSw); go_simp); (try with_reducible rfl))
      (try simp only [Act.put, List.setIfInBounds_toArray, List.set_cons_zero, List.set_cons_succ])
      refine Gated.take (i := 2) (o := { dst := some 41, op := Op.fieldAddr 24 (Operand.tmp 2) 0, type := 0, pos := "ref.go:159", after := #[], guard := none }) (v := ?_) rfl (by as_aux_lemma => kernel_rfl) (by as_aux_lemma => kernel_rfl) (by as_aux_lemma => kernel_rfl) (fun _ _ _ h => h) (tillH (by decide) (by decide)) trivial (Or.inl ⟨by rfl, ?hy⟩) ⟨HX.out _ D0.ext, (fun _ => D0.box.1.1), (fun _ => D0.box.1.2)⟩ ?_
      case hy => ((intro w' hSw; (try dsimp only at hSw); go_simp); (try with_reducible rfl))
      (try simp only [Act.put, List.setIfInBounds_toArray, List.set_cons_zero, List.set_cons_succ])
      refine Gated.take (i := 3) (o := { dst := some 42, op := Op.load 22 (Operand.tmp 41), type := 22, pos := "ref.go:159", after := #[{ on := 2, ground := Ground.data }], guard := none }) (v := ?_) rfl (by as_aux_lemma => kernel_rfl) (by as_aux_lemma => kernel_rfl) (by as_aux_lemma => kernel_rfl) (fun _ _ _ h => h) (tillH (by decide) (by decide)) trivial (Or.inl ⟨by rfl, ?hy⟩) ⟨HX.out _ D0.ext, (fun _ => D0.box.1.1), (fun _ => D0.box.1.2)⟩ ?_
      case hy => ((intro w' hSw; (try dsimp only at hSw); go_simp); (try with_reducible rfl))
      (try simp only [Act.put, List.setIfInBounds_toArray, List.set_cons_zero, List.set_cons_succ])
      refine Gated.take (i := 4) (o := { dst := some 43, op := Op.move (Operand.tmp 7), type := 3, pos := "ref.go:159", after := #[], guard := none }) (v := ?_) rfl (by as_aux_lemma => kernel_rfl) (by as_aux_lemma => kernel_rfl) (by as_aux_lemma => kernel_rfl) (fun _ _ _ h => h) (tillH (by decide) (by decide)) trivial (Or.inl ⟨by rfl, ?hy⟩) ⟨HX.out _ D0.ext, (fun _ => D0.box.1.1), (fun _ => D0.box.1.2)⟩ ?_
      case hy => ((intro w' hSw; (try dsimp only at hSw); go_simp); (try with_reducible rfl))
      (try simp only [Act.put, List.setIfInBounds_toArray, List.set_cons_zero, List.set_cons_succ])
      refine Gated.take (i := 5) (o := { dst := some 44, op := Op.indexAddr 22 (Operand.tmp 42) (Operand.tmp 43), type := 0, pos := "ref.go:159", after := #[{ on := 3, ground := Ground.data }, { on := 4, ground := Ground.data }], guard := none }) (v := ?_) rfl (by as_aux_lemma => kernel_rfl) (by as_aux_lemma => kernel_rfl) (by as_aux_lemma => kernel_rfl) (fun _ _ _ h => h) (tillH (by decide) (by decide)) trivial (Or.inl ⟨by rfl, ?hy⟩) ⟨HX.out _ D0.ext, (fun _ => D0.box.1.1), (fun _ => D0.box.1.2)⟩ ?_
      case hy => ((intro w' hSw; (try dsimp only at hSw); go_simp); (try with_reducible rfl))
      (try simp only [Act.put, List.setIfInBounds_toArray, List.set_cons_zero, List.set_cons_succ])
      refine Gated.take (i := 6) (o := { dst := some 45, op := Op.load 3 (Operand.tmp 44), type := 3, pos := "ref.go:159", after := #[{ on := 5, ground := Ground.data }], guard := none }) (v := ?_) rfl (by as_aux_lemma => kernel_rfl) (by as_aux_lemma => kernel_rfl) (by as_aux_lemma => kernel_rfl) (fun _ _ _ h => h) (tillH (by decide) (by decide)) trivial (Or.inl ⟨by rfl, ?hy⟩) ⟨HX.out _ D0.ext, (fun _ => D0.box.1.1), (fun _ => D0.box.1.2)⟩ ?_
      case hy => ((intro w' hSw; (try dsimp only at hSw); go_simp); (try with_reducible rfl))
      (try simp only [Act.put, List.setIfInBounds_toArray, List.set_cons_zero, List.set_cons_succ])
      refine Gated.take (i := 9) (o := { dst := some 48, op := Op.fieldAddr 24 (Operand.tmp 6) 1, type := 0, pos := "ref.go:159", after := #[], guard := none }) (v := ?_) rfl (by as_aux_lemma => kernel_rfl) (by as_aux_lemma => kernel_rfl) (by as_aux_lemma => kernel_rfl) (fun _ _ _ h => h) (tillH (by decide) (by decide)) trivial (Or.inl ⟨by rfl, ?hy⟩) ⟨HX.out _ D0.ext, (fun _ => D0.box.1.1), (fun _ => D0.box.1.2)⟩ ?_
      case hy => ((intro w' hSw; (try dsimp only at hSw); go_simp); (try with_reducible rfl))
      (try simp only [Act.put, List.setIfInBounds_toArray, List.set_cons_zero, List.set_cons_succ])
      refine Gated.take (i := 10) (o := { dst := some 49, op := Op.load 22 (Operand.tmp 48), type := 22, pos := "ref.go:159", after := #[{ on := 9, ground := Ground.data }], guard := none }) (v := ?_) rfl (by as_aux_lemma => kernel_rfl) (by as_aux_lemma => kernel_rfl) (by as_aux_lemma => kernel_rfl) (fun _ _ _ h => h) (till1 (by decide) (by decide) rfl (by as_aux_lemma => kernel_rfl)) (by as_aux_lemma => kernel_rfl) (Or.inl ⟨by rfl, ?hy⟩) ⟨HX.out _ D0.ext, (fun _ => D0.box.1.1), (fun _ => D0.box.1.2)⟩ ?_
      case hy => ((intro w' hSw; (try dsimp only at hSw); go_simp); (try with_reducible rfl))
      (try simp only [Act.put, List.setIfInBounds_toArray, List.set_cons_zero, List.set_cons_succ])
      refine Gated.take (i := 11) (o := { dst := some 50, op := Op.move (Operand.tmp 8), type := 3, pos := "ref.go:159", after := #[], guard := none }) (v := ?_) rfl (by as_aux_lemma => kernel_rfl) (by as_aux_lemma => kernel_rfl) (by as_aux_lemma => kernel_rfl) (fun _ _ _ h => h) (tillH (by decide) (by decide)) trivial (Or.inl ⟨by rfl, ?hy⟩) ⟨HX.out _ D0.ext, (fun _ => D0.box.1.1), (fun _ => D0.box.1.2)⟩ ?_
      case hy => ((intro w' hSw; (try dsimp only at hSw); go_simp); (try with_reducible rfl))
      (try simp only [Act.put, List.setIfInBounds_toArray, List.set_cons_zero, List.set_cons_succ])
      refine Gated.next (rs := [7, 12]) (by as_aux_lemma => kernel_rfl) (by simp) ?_
      refine Nexts.cons (j := 7) (o := { dst := some 46, op := Op.buildSlice 22 1 #[(0, Operand.tmp 45)], type := 22, pos := "ref.go:159", after := #[{ on := 6, ground := Ground.data }], guard := none }) rfl (fun K hK => ?_) ?_
      · have D1 := D0.alloc (.cells #[I (X j)] 3)
        have nUD1 : (wr.drew.alloc (.cells #[I (X j)] 3)).cell? ⟨wr.heap.size, 0, none⟩ = some (I (X j)) := by go_simp
        go_simp
        refine hK.out _ _ ⟨HX.out _ D1.ext, (fun _ => D1.box.1.1), (fun _ => D1.box.1.2)⟩ (fun _ => ?_)
        clear hK K
        (try simp only [Act.put, List.setIfInBounds_toArray, List.set_cons_zero, List.set_cons_succ])
        refine Gated.next (rs := [8, 12]) (by as_aux_lemma => kernel_rfl) (by simp) ?_
        refine Nexts.cons (j := 8) (o := { dst := some 47, op := Op.call { callee := Callee.builtin Builtin.append, args := #[Operand.tmp 40, Operand.tmp 46], argTypes := #[22, 22] }, type := 22, pos := "ref.go:159", after := #[{ on := 1, ground := Ground.data }, { on := 7, ground := Ground.data }], guard := none }) rfl (fun K hK => ?_) ?_
        · refine step_append_lies _ (by rfl) (.tmp 40) (.tmp 46) 22 (by rfl) _ 3 i0 _ 1 8 Try.underlying22 hi0 hz0 hz1 hz2 rfl (by omega) u j (rowL X j) (by rfl) D1.ru _ 1 1 [I (X j)] (by rfl) (by rfl) (news1 nUD1) (by simp [Value.oneCell']) (by omega) hm8 hb8 D1.gB.2.2 _ (by rfl) ?_
          intro gU capU wU hoU hgU haU hlU
          have D2 := D1.appU hoU hgU haU
          refine hK.out _ _ ⟨HX.out _ D2.ext, (fun _ => D2.box.1.1), (fun _ => D2.box.1.2)⟩ (fun _ => ?_)
          clear hK K
          (try simp only [Act.put, List.setIfInBounds_toArray, List.set_cons_zero, List.set_cons_succ])
          refine Gated.take (i := 14) (o := { dst := some 53, op := Op.fieldAddr 24 (Operand.tmp 6) 0, type := 0, pos := "ref.go:159", after := #[{ on := 0, ground := Ground.phase }, { on := 1, ground := Ground.phase }, { on := 2, ground := Ground.phase }, { on := 3, ground := Ground.phase }, { on := 4, ground := Ground.phase }, { on := 5, ground := Ground.phase }, { on := 6, ground := Ground.phase }, { on := 7, ground := Ground.phase }, { on := 8, ground := Ground.phase }, { on := 9, ground := Ground.phase }, { on := 10, ground := Ground.phase }, { on := 11, ground := Ground.textOnly Departure.lateStores }, { on := 12, ground := Ground.textOnly Departure.lateStores }, { on := 13, ground := Ground.textOnly Departure.lateStoresUnsure }], guard := none }) (v := ?_) rfl (by as_aux_lemma => kernel_rfl) (by as_aux_lemma => kernel_rfl) (by as_aux_lemma => kernel_rfl) (fun _ _ _ h => h) (tillH (by decide) (by decide)) trivial (Or.inl ⟨by rfl, ?hy⟩) ⟨HX.out _ D2.ext, (fun _ => D2.box.1.1), (fun _ => D2.box.1.2)⟩ ?_
          case hy => ((intro w' hSw; (try dsimp only at hSw); go_simp); (try with_reducible rfl))
          (try simp only [Act.put, List.setIfInBounds_toArray, List.set_cons_zero, List.set_cons_succ])
          refine Gated.next (rs := [12]) (by as_aux_lemma => kernel_rfl) (by simp) ?_
          refine Nexts.cons (j := 12) (o := { dst := some 51, op := Op.buildSlice 22 1 #[(0, Operand.tmp 50)], type := 22, pos := "ref.go:159", after := #[{ on := 11, ground := Ground.data }], guard := none }) rfl (fun K hK => ?_) Nexts.nil
          have D3 := D2.alloc (.cells #[I z] 3)
          have fVD3 : some (wU.heap.size) ≠ (Value.slice (some ⟨gU, 0, none⟩) (j + 1) capU).ownBlock := own_fresh D2.ru (by simp)
          have nVD3 : (wU.alloc (.cells #[I z] 3)).cell? ⟨wU.heap.size, 0, none⟩ = some (I z) := by go_simp
          go_simp
          refine hK.out _ _ ⟨HX.out _ D3.ext, (fun _ => D3.box.1.1), (fun _ => D3.box.1.2)⟩ (fun _ => ?_)
          clear hK K
          (try simp only [Act.put, List.setIfInBounds_toArray, List.set_cons_zero, List.set_cons_succ])
          refine Gated.next (rs := [13]) (by as_aux_lemma => kernel_rfl) (by simp) ?_
          refine Nexts.cons (j := 13) (o := { dst := some 52, op := Op.call { callee := Callee.builtin Builtin.append, args := #[Operand.tmp 49, Operand.tmp 51], argTypes := #[22, 22] }, type := 22, pos := "ref.go:159", after := #[{ on := 10, ground := Ground.data }, { on := 12, ground := Ground.data }, { on := 8, ground := Ground.chain }], guard := none }) rfl (fun K hK => ?_) Nexts.nil
          refine step_append_lies _ (by rfl) (.tmp 49) (.tmp 51) 22 (by rfl) _ 3 i0 _ 1 8 Try.underlying22 hi0 hz0 hz1 hz2 rfl (by omega) v j (rowL (fun i => scv m (Y i)) j) (by rfl) D3.rv _ 1 1 [I z] (by rfl) (by rfl) (news1 nVD3) (by simp [Value.oneCell']) (by omega) hm8 hb8 D3.gB.2.2 _ (by rfl) ?_
          intro gV capV wV hoV hgV haV hlV
          have D4 := D3.appV hoV hgV haV
          refine hK.out _ _ ⟨HX.out _ D4.ext, (fun _ => D4.box.1.1), (fun _ => D4.box.1.2)⟩ (fun _ => ?_)
          clear hK K
          (try simp only [Act.put, List.setIfInBounds_toArray, List.set_cons_zero, List.set_cons_succ])
          refine Gated.next (rs := [15]) (by as_aux_lemma => kernel_rfl) (by simp) ?_
          refine Nexts.cons (j := 15) (o := { dst := none, op := Op.store 22 (Operand.tmp 53) (Operand.tmp 47), type := 0, pos := "ref.go:159", after := #[{ on := 14, ground := Ground.data }, { on := 8, ground := Ground.data }, { on := 13, ground := Ground.chain }, { on := 0, ground := Ground.phase }, { on := 1, ground := Ground.phase }, { on := 2, ground := Ground.phase }, { on := 3, ground := Ground.phase }, { on := 4, ground := Ground.phase }, { on := 5, ground := Ground.phase }, { on := 6, ground := Ground.phase }, { on := 7, ground := Ground.phase }, { on := 8, ground := Ground.phase }, { on := 9, ground := Ground.phase }, { on := 10, ground := Ground.phase }, { on := 11, ground := Ground.textOnly Departure.lateStores }, { on := 12, ground := Ground.textOnly Departure.lateStores }, { on := 13, ground := Ground.textOnly Departure.lateStoresUnsure }], guard := none }) rfl (fun K hK => ?_) Nexts.nil
          obtain ⟨⟨b0D5, b1D5⟩, bfD5⟩ := D4.box
          have D5 := D4.set0 (.slice (some ⟨gU, 0, none⟩) (j + 1) capU)
          go_simp
          refine hK.out _ _ ⟨HX.out _ D5.ext, (no_ (by as_aux_lemma => kernel_rfl)), (fun _ => D5.box.1.2)⟩ (fun _ => ?_)
          clear hK K b0D5 b1D5 bfD5
          (try simp only [Act.put, List.setIfInBounds_toArray, List.set_cons_zero, List.set_cons_succ])
          refine Gated.take (i := 16) (o := { dst := some 54, op := Op.fieldAddr 24 (Operand.tmp 6) 1, type := 0, pos := "ref.go:159", after := #[{ on := 0, ground := Ground.phase }, { on := 1, ground := Ground.phase }, { on := 2, ground := Ground.phase }, { on := 3, ground := Ground.phase }, { on := 4, ground := Ground.phase }, { on := 5, ground := Ground.phase }, { on := 6, ground := Ground.phase }, { on := 7, ground := Ground.phase }, { on := 8, ground := Ground.phase }, { on := 9, ground := Ground.phase }, { on := 10, ground := Ground.phase }, { on := 11, ground := Ground.phase }, { on := 12, ground := Ground.phase }, { on := 13, ground := Ground.phase }, { on := 14, ground := Ground.phase }, { on := 15, ground := Ground.phase }], guard := none }) (v := ?_) rfl (by as_aux_lemma => kernel_rfl) (by as_aux_lemma => kernel_rfl) (by as_aux_lemma => kernel_rfl) (fun _ _ _ h => h) (tillH (by decide) (by decide)) trivial (Or.inl ⟨by rfl, ?hy⟩) ⟨HX.out _ D5.ext, (no_ (by as_aux_lemma => kernel_rfl)), (fun _ => D5.box.1.2)⟩ ?_
          case hy => ((intro w' hSw; (try dsimp only at hSw); go_simp); (try with_reducible rfl))
          (try simp only [Act.put, List.setIfInBounds_toArray, List.set_cons_zero, List.set_cons_succ])
          refine Gated.next (rs := [17]) (by as_aux_lemma => kernel_rfl) (by simp) ?_
          refine Nexts.cons (j := 17) (o := { dst := none, op := Op.store 22 (Operand.tmp 54) (Operand.tmp 52), type := 0, pos := "ref.go:159", after := #[{ on := 16, ground := Ground.data }, { on := 13, ground := Ground.data }, { on := 15, ground := Ground.chain }, { on := 0, ground := Ground.phase }, { on := 1, ground := Ground.phase }, { on := 2, ground := Ground.phase }, { on := 3, ground := Ground.phase }, { on := 4, ground := Ground.phase }, { on := 5, ground := Ground.phase }, { on := 6, ground := Ground.phase }, { on := 7, ground := Ground.phase }, { on := 8, ground := Ground.phase }, { on := 9, ground := Ground.phase }, { on := 10, ground := Ground.phase }, { on := 11, ground := Ground.phase }, { on := 12, ground := Ground.phase }, { on := 13, ground := Ground.phase }, { on := 14, ground := Ground.phase }, { on := 15, ground := Ground.phase }], guard := none }) rfl (fun K hK => ?_) Nexts.nil
          obtain ⟨⟨b0D6, b1D6⟩, bfD6⟩ := D5.box
          have D6 := D5.set1 (.slice (some ⟨gV, 0, none⟩) (j + 1) capV)
          go_simp
          refine hK.out _ _ ⟨HX.out _ D6.ext, (no_ (by as_aux_lemma => kernel_rfl)), (no_ (by as_aux_lemma => kernel_rfl))⟩ (fun _ => ?_)
          clear hK K b0D6 b1D6 bfD6
          (try simp only [Act.put, List.setIfInBounds_toArray, List.set_cons_zero, List.set_cons_succ])
          refine Gated.done (by as_aux_lemma => kernel_rfl) ?_
          (try refine NoPanic.normal ?_)
          have DE := D6
          rw [← rowL_succ, ← HZ.out, ← rowL_succ (fun i => scv m (Y i)) j] at DE
          go_wp2_with fail
          go_roundw
          case rel => exact ⟨j + 1, _, _, by omega, by go_num, DE, HB3.out⟩
          case measure => simp [intOf]; omega
        refine Nexts.cons (j := 12) (o := { dst := some 51, op := Op.buildSlice 22 1 #[(0, Operand.tmp 50)], type := 22, pos := "ref.go:159", after := #[{ on := 11, ground := Ground.data }], guard := none }) rfl (fun K hK => ?_) ?_
        · have D7 := D1.alloc (.cells #[I z] 3)
          have fVD7 : some (wr.heap.size + 1) ≠ u.ownBlock := own_fresh D1.ru (by simp)
          have nUD7 : ((wr.drew.alloc (.cells #[I (X j)] 3)).alloc (.cells #[I z] 3)).cell? ⟨wr.heap.size, 0, none⟩ = some (I (X j)) := ((Ext.alloc (wr.drew.alloc (.cells #[I (X j)] 3)) _).old.1 _ 0 (by simp)).trans nUD1
          have nVD7 : ((wr.drew.alloc (.cells #[I (X j)] 3)).alloc (.cells #[I z] 3)).cell? ⟨wr.heap.size + 1, 0, none⟩ = some (I z) := by go_simp
          go_simp
          refine hK.out _ _ ⟨HX.out _ D7.ext, (fun _ => D7.box.1.1), (fun _ => D7.box.1.2)⟩ (fun _ => ?_)
          clear hK K
          (try simp only [Act.put, List.setIfInBounds_toArray, List.set_cons_zero, List.set_cons_succ])
          refine Gated.next (rs := [8]) (by as_aux_lemma => kernel_rfl) (by simp) ?_
          refine Nexts.cons (j := 8) (o := { dst := some 47, op := Op.call { callee := Callee.builtin Builtin.append, args := #[Operand.tmp 40, Operand.tmp 46], argTypes := #[22, 22] }, type := 22, pos := "ref.go:159", after := #[{ on := 1, ground := Ground.data }, { on := 7, ground := Ground.data }], guard := none }) rfl (fun K hK => ?_) Nexts.nil
          refine step_append_lies _ (by rfl) (.tmp 40) (.tmp 46) 22 (by rfl) _ 3 i0 _ 1 8 Try.underlying22 hi0 hz0 hz1 hz2 rfl (by omega) u j (rowL X j) (by rfl) D7.ru _ 1 1 [I (X j)] (by rfl) (by rfl) (news1 nUD7) (by simp [Value.oneCell']) (by omega) hm8 hb8 D7.gB.2.2 _ (by rfl) ?_
          intro gU capU wU hoU hgU haU hlU
          have D8 := D7.appU hoU hgU haU
          have nVD8 := hgU.cell nVD7 fVD7
          refine hK.out _ _ ⟨HX.out _ D8.ext, (fun _ => D8.box.1.1), (fun _ => D8.box.1.2)⟩ (fun _ => ?_)
          clear hK K
          (try simp only [Act.put, List.setIfInBounds_toArray, List.set_cons_zero, List.set_cons_succ])
          refine Gated.take (i := 14) (o := { dst := some 53, op := Op.fieldAddr 24 (Operand.tmp 6) 0, type := 0, pos := "ref.go:159", after := #[{ on := 0, ground := Ground.phase }, { on := 1, ground := Ground.phase }, { on := 2, ground := Ground.phase }, { on := 3, ground := Ground.phase }, { on := 4, ground := Ground.phase }, { on := 5, ground := Ground.phase }, { on := 6, ground := Ground.phase }, { on := 7, ground := Ground.phase }, { on := 8, ground := Ground.phase }, { on := 9, ground := Ground.phase }, { on := 10, ground := Ground.phase }, { on := 11, ground := Ground.textOnly Departure.lateStores }, { on := 12, ground := Ground.textOnly Departure.lateStores }, { on := 13, ground := Ground.textOnly Departure.lateStoresUnsure }], guard := none }) (v := ?_) rfl (by as_aux_lemma => kernel_rfl) (by as_aux_lemma => kernel_rfl) (by as_aux_lemma => kernel_rfl) (fun _ _ _ h => h) (tillH (by decide) (by decide)) trivial (Or.inl ⟨by rfl, ?hy⟩) ⟨HX.out _ D8.ext, (fun _ => D8.box.1.1), (fun _ => D8.box.1.2)⟩ ?_
          case hy => ((intro w' hSw; (try dsimp only at hSw); go_simp); (try with_reducible rfl))
          (try simp only [Act.put, List.setIfInBounds_toArray, List.set_cons_zero, List.set_cons_succ])
          refine Gated.next (rs := [13]) (by as_aux_lemma => kernel_rfl) (by simp) ?_
          refine Nexts.cons (j := 13) (o := { dst := some 52, op := Op.call { callee := Callee.builtin Builtin.append, args := #[Operand.tmp 49, Operand.tmp 51], argTypes := #[22, 22] }, type := 22, pos := "ref.go:159", after := #[{ on := 10, ground := Ground.data }, { on := 12, ground := Ground.data }, { on := 8, ground := Ground.chain }], guard := none }) rfl (fun K hK => ?_) Nexts.nil
          refine step_append_lies _ (by rfl) (.tmp 49) (.tmp 51) 22 (by rfl) _ 3 i0 _ 1 8 Try.underlying22 hi0 hz0 hz1 hz2 rfl (by omega) v j (rowL (fun i => scv m (Y i)) j) (by rfl) D8.rv _ 1 1 [I z] (by rfl) (by rfl) (news1 nVD8) (by simp [Value.oneCell']) (by omega) hm8 hb8 D8.gB.2.2 _ (by rfl) ?_
          intro gV capV wV hoV hgV haV hlV
          have D9 := D8.appV hoV hgV haV
          refine hK.out _ _ ⟨HX.out _ D9.ext, (fun _ => D9.box.1.1), (fun _ => D9.box.1.2)⟩ (fun _ => ?_)
          clear hK K
          (try simp only [Act.put, List.setIfInBounds_toArray, List.set_cons_zero, List.set_cons_succ])
          refine Gated.next (rs := [15]) (by as_aux_lemma => kernel_rfl) (by simp) ?_
          refine Nexts.cons (j := 15) (o := { dst := none, op := Op.store 22 (Operand.tmp 53) (Operand.tmp 47), type := 0, pos := "ref.go:159", after := #[{ on := 14, ground := Ground.data }, { on := 8, ground := Ground.data }, { on := 13, ground := Ground.chain }, { on := 0, ground := Ground.phase }, { on := 1, ground := Ground.phase }, { on := 2, ground := Ground.phase }, { on := 3, ground := Ground.phase }, { on := 4, ground := Ground.phase }, { on := 5, ground := Ground.phase }, { on := 6, ground := Ground.phase }, { on := 7, ground := Ground.phase }, { on := 8, ground := Ground.phase }, { on := 9, ground := Ground.phase }, { on := 10, ground := Ground.phase }, { on := 11, ground := Ground.textOnly Departure.lateStores }, { on := 12, ground := Ground.textOnly Departure.lateStores }, { on := 13, ground := Ground.textOnly Departure.lateStoresUnsure }], guard := none }) rfl (fun K hK => ?_) Nexts.nil
          obtain ⟨⟨b0D10, b1D10⟩, bfD10⟩ := D9.box
          have D10 := D9.set0 (.slice (some ⟨gU, 0, none⟩) (j + 1) capU)
          go_simp
          refine hK.out _ _ ⟨HX.out _ D10.ext, (no_ (by as_aux_lemma => kernel_rfl)), (fun _ => D10.box.1.2)⟩ (fun _ => ?_)
          clear hK K b0D10 b1D10 bfD10
          (try simp only [Act.put, List.setIfInBounds_toArray, List.set_cons_zero, List.set_cons_succ])
          refine Gated.take (i := 16) (o := { dst := some 54, op := Op.fieldAddr 24 (Operand.tmp 6) 1, type := 0, pos := "ref.go:159", after := #[{ on := 0, ground := Ground.phase }, { on := 1, ground := Ground.phase }, { on := 2, ground := Ground.phase }, { on := 3, ground := Ground.phase }, { on := 4, ground := Ground.phase }, { on := 5, ground := Ground.phase }, { on := 6, ground := Ground.phase }, { on := 7, ground := Ground.phase }, { on := 8, ground := Ground.phase }, { on := 9, ground := Ground.phase }, { on := 10, ground := Ground.phase }, { on := 11, ground := Ground.phase }, { on := 12, ground := Ground.phase }, { on := 13, ground := Ground.phase }, { on := 14, ground := Ground.phase }, { on := 15, ground := Ground.phase }], guard := none }) (v := ?_) rfl (by as_aux_lemma => kernel_rfl) (by as_aux_lemma => kernel_rfl) (by as_aux_lemma => kernel_rfl) (fun _ _ _ h => h) (tillH (by decide) (by decide)) trivial (Or.inl ⟨by rfl, ?hy⟩) ⟨HX.out _ D10.ext, (no_ (by as_aux_lemma => kernel_rfl)), (fun _ => D10.box.1.2)⟩ ?_
          case hy => ((intro w' hSw; (try dsimp only at hSw); go_simp); (try with_reducible rfl))
          (try simp only [Act.put, List.setIfInBounds_toArray, List.set_cons_zero, List.set_cons_succ])
          refine Gated.next (rs := [17]) (by as_aux_lemma => kernel_rfl) (by simp) ?_
          refine Nexts.cons (j := 17) (o := { dst := none, op := Op.store 22 (Operand.tmp 54) (Operand.tmp 52), type := 0, pos := "ref.go:159", after := #[{ on := 16, ground := Ground.data }, { on := 13, ground := Ground.data }, { on := 15, ground := Ground.chain }, { on := 0, ground := Ground.phase }, { on := 1, ground := Ground.phase }, { on := 2, ground := Ground.phase }, { on := 3, ground := Ground.phase }, { on := 4, ground := Ground.phase }, { on := 5, ground := Ground.phase }, { on := 6, ground := Ground.phase }, { on := 7, ground := Ground.phase }, { on := 8, ground := Ground.phase }, { on := 9, ground := Ground.phase }, { on := 10, ground := Ground.phase }, { on := 11, ground := Ground.phase }, { on := 12, ground := Ground.phase }, { on := 13, ground := Ground.phase }, { on := 14, ground := Ground.phase }, { on := 15, ground := Ground.phase }], guard := none }) rfl (fun K hK => ?_) Nexts.nil
          obtain ⟨⟨b0D11, b1D11⟩, bfD11⟩ := D10.box
          have D11 := D10.set1 (.slice (some ⟨gV, 0, none⟩) (j + 1) capV)
          go_simp
          refine hK.out _ _ ⟨HX.out _ D11.ext, (no_ (by as_aux_lemma => kernel_rfl)), (no_ (by as_aux_lemma => kernel_rfl))⟩ (fun _ => ?_)
          clear hK K b0D11 b1D11 bfD11
          (try simp only [Act.put, List.setIfInBounds_toArray, List.set_cons_zero, List.set_cons_succ])
          refine Gated.done (by as_aux_lemma => kernel_rfl) ?_
          (try refine NoPanic.normal ?_)
          have DE := D11
          rw [← rowL_succ, ← HZ.out, ← rowL_succ (fun i => scv m (Y i)) j] at DE
          go_wp2_with fail
          go_roundw
          case rel => exact ⟨j + 1, _, _, by omega, by go_num, DE, HB3.out⟩
          case measure => simp [intOf]; omega
        exact Nexts.nil
      refine Nexts.cons (j := 12) (o := { dst := some 51, op := Op.buildSlice 22 1 #[(0, Operand.tmp 50)], type := 22, pos := "ref.go:159", after := #[{ on := 11, ground := Ground.data }], guard := none }) rfl (fun K hK => ?_) ?_
      · have D12 := D0.alloc (.cells #[I z] 3)
        have fVD12 : some (wr.heap.size) ≠ u.ownBlock := own_fresh D0.ru (by simp)
        have nVD12 : (wr.drew.alloc (.cells #[I z] 3)).cell? ⟨wr.heap.size, 0, none⟩ = some (I z) := by go_simp
        go_simp
        refine hK.out _ _ ⟨HX.out _ D12.ext, (fun _ => D12.box.1.1), (fun _ => D12.box.1.2)⟩ (fun _ => ?_)
        clear hK K
        (try simp only [Act.put, List.setIfInBounds_toArray, List.set_cons_zero, List.set_cons_succ])
        refine Gated.next (rs := [7]) (by as_aux_lemma => kernel_rfl) (by simp) ?_
        refine Nexts.cons (j := 7) (o := { dst := some 46, op := Op.buildSlice 22 1 #[(0, Operand.tmp 45)], type := 22, pos := "ref.go:159", after := #[{ on := 6, ground := Ground.data }], guard := none }) rfl (fun K hK => ?_) Nexts.nil
        have D13 := D12.alloc (.cells #[I (X j)] 3)
        have nVD13 : ((wr.drew.alloc (.cells #[I z] 3)).alloc (.cells #[I (X j)] 3)).cell? ⟨wr.heap.size, 0, none⟩ = some (I z) := ((Ext.alloc (wr.drew.alloc (.cells #[I z] 3)) _).old.1 _ 0 (by simp)).trans nVD12
        have nUD13 : ((wr.drew.alloc (.cells #[I z] 3)).alloc (.cells #[I (X j)] 3)).cell? ⟨wr.heap.size + 1, 0, none⟩ = some (I (X j)) := by go_simp
        go_simp
        refine hK.out _ _ ⟨HX.out _ D13.ext, (fun _ => D13.box.1.1), (fun _ => D13.box.1.2)⟩ (fun _ => ?_)
        clear hK K
        (try simp only [Act.put, List.setIfInBounds_toArray, List.set_cons_zero, List.set_cons_succ])
        refine Gated.next (rs := [8]) (by as_aux_lemma => kernel_rfl) (by simp) ?_
        refine Nexts.cons (j := 8) (o := { dst := some 47, op := Op.call { callee := Callee.builtin Builtin.append, args := #[Operand.tmp 40, Operand.tmp 46], argTypes := #[22, 22] }, type := 22, pos := "ref.go:159", after := #[{ on := 1, ground := Ground.data }, { on := 7, ground := Ground.data }], guard := none }) rfl (fun K hK => ?_) Nexts.nil
        refine step_append_lies _ (by rfl) (.tmp 40) (.tmp 46) 22 (by rfl) _ 3 i0 _ 1 8 Try.underlying22 hi0 hz0 hz1 hz2 rfl (by omega) u j (rowL X j) (by rfl) D13.ru _ 1 1 [I (X j)] (by rfl) (by rfl) (news1 nUD13) (by simp [Value.oneCell']) (by omega) hm8 hb8 D13.gB.2.2 _ (by rfl) ?_
        intro gU capU wU hoU hgU haU hlU
        have D14 := D13.appU hoU hgU haU
        have nVD14 := hgU.cell nVD13 fVD12
        refine hK.out _ _ ⟨HX.out _ D14.ext, (fun _ => D14.box.1.1), (fun _ => D14.box.1.2)⟩ (fun _ => ?_)
        clear hK K
        (try simp only [Act.put, List.setIfInBounds_toArray, List.set_cons_zero, List.set_cons_succ])
        refine Gated.take (i := 14) (o := { dst := some 53, op := Op.fieldAddr 24 (Operand.tmp 6) 0, type := 0, pos := "ref.go:159", after := #[{ on := 0, ground := Ground.phase }, { on := 1, ground := Ground.phase }, { on := 2, ground := Ground.phase }, { on := 3, ground := Ground.phase }, { on := 4, ground := Ground.phase }, { on := 5, ground := Ground.phase }, { on := 6, ground := Ground.phase }, { on := 7, ground := Ground.phase }, { on := 8, ground := Ground.phase }, { on := 9, ground := Ground.phase }, { on := 10, ground := Ground.phase }, { on := 11, ground := Ground.textOnly Departure.lateStores }, { on := 12, ground := Ground.textOnly Departure.lateStores }, { on := 13, ground := Ground.textOnly Departure.lateStoresUnsure }], guard := none }) (v := ?_) rfl (by as_aux_lemma => kernel_rfl) (by as_aux_lemma => kernel_rfl) (by as_aux_lemma => kernel_rfl) (fun _ _ _ h => h) (tillH (by decide) (by decide)) trivial (Or.inl ⟨by rfl, ?hy⟩) ⟨HX.out _ D14.ext, (fun _ => D14.box.1.1), (fun _ => D14.box.1.2)⟩ ?_
        case hy => ((intro w' hSw; (try dsimp only at hSw); go_simp); (try with_reducible rfl))
        (try simp only [Act.put, List.setIfInBounds_toArray, List.set_cons_zero, List.set_cons_succ])
        refine Gated.next (rs := [13]) (by as_aux_lemma => kernel_rfl) (by simp) ?_
        refine Nexts.cons (j := 13) (o := { dst := some 52, op := Op.call { callee := Callee.builtin Builtin.append, args := #[Operand.tmp 49, Operand.tmp 51], argTypes := #[22, 22] }, type := 22, pos := "ref.go:159", after := #[{ on := 10, ground := Ground.data }, { on := 12, ground := Ground.data }, { on := 8, ground := Ground.chain }], guard := none }) rfl (fun K hK => ?_) Nexts.nil
        refine step_append_lies _ (by rfl) (.tmp 49) (.tmp 51) 22 (by rfl) _ 3 i0 _ 1 8 Try.underlying22 hi0 hz0 hz1 hz2 rfl (by omega) v j (rowL (fun i => scv m (Y i)) j) (by rfl) D14.rv _ 1 1 [I z] (by rfl) (by rfl) (news1 nVD14) (by simp [Value.oneCell']) (by omega) hm8 hb8 D14.gB.2.2 _ (by rfl) ?_
        intro gV capV wV hoV hgV haV hlV
        have D15 := D14.appV hoV hgV haV
        refine hK.out _ _ ⟨HX.out _ D15.ext, (fun _ => D15.box.1.1), (fun _ => D15.box.1.2)⟩ (fun _ => ?_)
        clear hK K
        (try simp only [Act.put, List.setIfInBounds_toArray, List.set_cons_zero, List.set_cons_succ])
        refine Gated.next (rs := [15]) (by as_aux_lemma => kernel_rfl) (by simp) ?_
        refine Nexts.cons (j := 15) (o := { dst := none, op := Op.store 22 (Operand.tmp 53) (Operand.tmp 47), type := 0, pos := "ref.go:159", after := #[{ on := 14, ground := Ground.data }, { on := 8, ground := Ground.data }, { on := 13, ground := Ground.chain }, { on := 0, ground := Ground.phase }, { on := 1, ground := Ground.phase }, { on := 2, ground := Ground.phase }, { on := 3, ground := Ground.phase }, { on := 4, ground := Ground.phase }, { on := 5, ground := Ground.phase }, { on := 6, ground := Ground.phase }, { on := 7, ground := Ground.phase }, { on := 8, ground := Ground.phase }, { on := 9, ground := Ground.phase }, { on := 10, ground := Ground.phase }, { on := 11, ground := Ground.textOnly Departure.lateStores }, { on := 12, ground := Ground.textOnly Departure.lateStores }, { on := 13, ground := Ground.textOnly Departure.lateStoresUnsure }], guard := none }) rfl (fun K hK => ?_) Nexts.nil
        obtain ⟨⟨b0D16, b1D16⟩, bfD16⟩ := D15.box
        have D16 := D15.set0 (.slice (some ⟨gU, 0, none⟩) (j + 1) capU)
        go_simp
        refine hK.out _ _ ⟨HX.out _ D16.ext, (no_ (by as_aux_lemma => kernel_rfl)), (fun _ => D16.box.1.2)⟩ (fun _ => ?_)
        clear hK K b0D16 b1D16 bfD16
        (try simp only [Act.put, List.setIfInBounds_toArray, List.set_cons_zero, List.set_cons_succ])
        refine Gated.take (i := 16) (o := { dst := some 54, op := Op.fieldAddr 24 (Operand.tmp 6) 1, type := 0, pos := "ref.go:159", after := #[{ on := 0, ground := Ground.phase }, { on := 1, ground := Ground.phase }, { on := 2, ground := Ground.phase }, { on := 3, ground := Ground.phase }, { on := 4, ground := Ground.phase }, { on := 5, ground := Ground.phase }, { on := 6, ground := Ground.phase }, { on := 7, ground := Ground.phase }, { on := 8, ground := Ground.phase }, { on := 9, ground := Ground.phase }, { on := 10, ground := Ground.phase }, { on := 11, ground := Ground.phase }, { on := 12, ground := Ground.phase }, { on := 13, ground := Ground.phase }, { on := 14, ground := Ground.phase }, { on := 15, ground := Ground.phase }], guard := none }) (v := ?_) rfl (by as_aux_lemma => kernel_rfl) (by as_aux_lemma => kernel_rfl) (by as_aux_lemma => kernel_rfl) (fun _ _ _ h => h) (tillH (by decide) (by decide)) trivial (Or.inl ⟨by rfl, ?hy⟩) ⟨HX.out _ D16.ext, (no_ (by as_aux_lemma => kernel_rfl)), (fun _ => D16.box.1.2)⟩ ?_
        case hy => ((intro w' hSw; (try dsimp only at hSw); go_simp); (try with_reducible rfl))
        (try simp only [Act.put, List.setIfInBounds_toArray, List.set_cons_zero, List.set_cons_succ])
        refine Gated.next (rs := [17]) (by as_aux_lemma => kernel_rfl) (by simp) ?_
        refine Nexts.cons (j := 17) (o := { dst := none, op := Op.store 22 (Operand.tmp 54) (Operand.tmp 52), type := 0, pos := "ref.go:159", after := #[{ on := 16, ground := Ground.data }, { on := 13, ground := Ground.data }, { on := 15, ground := Ground.chain }, { on := 0, ground := Ground.phase }, { on := 1, ground := Ground.phase }, { on := 2, ground := Ground.phase }, { on := 3, ground := Ground.phase }, { on := 4, ground := Ground.phase }, { on := 5, ground := Ground.phase }, { on := 6, ground := Ground.phase }, { on := 7, ground := Ground.phase }, { on := 8, ground := Ground.phase }, { on := 9, ground := Ground.phase }, { on := 10, ground := Ground.phase }, { on := 11, ground := Ground.phase }, { on := 12, ground := Ground.phase }, { on := 13, ground := Ground.phase }, { on := 14, ground := Ground.phase }, { on := 15, ground := Ground.phase }], guard := none }) rfl (fun K hK => ?_) Nexts.nil
        obtain ⟨⟨b0D17, b1D17⟩, bfD17⟩ := D16.box
        have D17 := D16.set1 (.slice (some ⟨gV, 0, none⟩) (j + 1) capV)
        go_simp
        refine hK.out _ _ ⟨HX.out _ D17.ext, (no_ (by as_aux_lemma => kernel_rfl)), (no_ (by as_aux_lemma => kernel_rfl))⟩ (fun _ => ?_)
        clear hK K b0D17 b1D17 bfD17
        (try simp only [Act.put, List.setIfInBounds_toArray, List.set_cons_zero, List.set_cons_succ])
        refine Gated.done (by as_aux_lemma => kernel_rfl) ?_
        (try refine NoPanic.normal ?_)
        have DE := D17
        rw [← rowL_succ, ← HZ.out, ← rowL_succ (fun i => scv m (Y i)) j] at DE
        go_wp2_with fail
        go_roundw
        case rel => exact ⟨j + 1, _, _, by omega, by go_num, DE, HB3.out⟩
        case measure => simp [intOf]; omega
      exact Nexts.nil
    · obtain rfl : j = n := by omega
      obtain ⟨⟨r0, r1⟩, rf⟩ := (B2.new' (w.alloc (.cells #[.slice (some ⟨ba, oa, none⟩) j c, .slice (some ⟨bb, ob, none⟩) j e] 24)) (.slice none 0 0) (.slice none 0 0) 24 (by simp : w.heap.size + 1 = _)).ext hb
      obtain ⟨gU, cU, rfl, hU, lU⟩ := D.ru.form (by have := K.out.two; omega)
      obtain ⟨gV, cV, rfl, hV, lV⟩ := D.rv.form (by have := K.out.two; omega)
      have RU := Lib.hid D.ru; have RV := Lib.hid D.rv; have E0 := Lib.hid D.ext
      have Q := Lib.hid (box_set (.slice (some ⟨gU, 0, none⟩) j cU) (.slice (some ⟨gV, 0, none⟩) j cV) r0 r1)
      clear g0 D
      go_wp2_with fail
      exact bodyPost_ret (v := .tuple #[cv (some ⟨gU, 0, none⟩) j cU (some ⟨gV, 0, none⟩) j cV, I 0]) (by simp [results, Try.results33, go_sem, Q.out.1, Q.out.2]) rfl (.inl ⟨HB2.out, _, _, _, _, rfl, ⟨by omega, by omega⟩, Ri.of_row RU.out (box_far _ _ _ _ _ (by omega)), Ri.of_row RV.out (box_far _ _ _ _ _ (by omega)), ((((Ext.alloc w _).trans (Ext.alloc _ _)).trans E0.out).set (by show w.heap.size ≤ w.heap.size + 1; omega) _).set (by show w.heap.size ≤ w.heap.size + 1; omega) _⟩)

set_option maxRecDepth 100000 in
set_option maxHeartbeats 1000000 in
theorem rscale_out {w : World} (A B : Option Addr) (n c m e : Nat) (a : Int) (h : a < 0 ∨ 131072 < a) :
    Calls Try.prog 33 #[cv A n c B m e, I a] w fun e' w' => e' = .returned (.tuple #[cv none 0 0 none 0 0, I 3]) ∧ Ext w w' := by
  rcases h with h | h
  · go_enter Try.func33, Try.ntmps33
    go_wp2_with fail
    exact bodyPost_ret (v := .tuple #[cv none 0 0 none 0 0, I 3]) (by simp [results, Try.results33, go_sem]) rfl ⟨rfl, (by repeat (first | exact Ext.refl _ | assumption | exact Ext.alloc _ _ | refine Ext.trans ?_ (by assumption) | refine Ext.trans ?_ (Ext.alloc _ _) | refine Ext.trans ?_ (Ext.drewN _ _) | refine Ext.trans ?_ (Ext.drew _)))⟩
  · have h' : ¬ a < 0 := by omega
    go_enter Try.func33, Try.ntmps33
    go_wp2_with fail
    exact bodyPost_ret (v := .tuple #[cv none 0 0 none 0 0, I 3]) (by simp [results, Try.results33, go_sem]) rfl ⟨rfl, (by repeat (first | exact Ext.refl _ | assumption | exact Ext.alloc _ _ | refine Ext.trans ?_ (by assumption) | refine Ext.trans ?_ (Ext.alloc _ _) | refine Ext.trans ?_ (Ext.drewN _ _) | refine Ext.trans ?_ (Ext.drew _)))⟩
end Go.Proofs.Ytdcollchhcjaaaa
