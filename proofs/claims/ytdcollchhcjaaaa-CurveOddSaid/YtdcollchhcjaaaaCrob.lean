/- Curves: Odd by the reference. -/
import Derived.Test.YtdcollchhcjaaaaCroa
namespace Go.Proofs.Ytdcollchhcjaaaa
open Go Go.RowKit

theorem rowL_succ' {f : Nat → Int} {k : Nat} {a : Int} (h : f k = a) : rowL f (k + 1) = rowL f k ++ [I a] := by rw [rowL_succ, h]
def ROdPost (n : Nat) (X Y : Nat → Int) (w : World) (e : Ending) (w' : World) : Prop :=
  ((∃ i, i < n ∧ (X i ≤ 0 ∨ Y i < 0)) ∧ e = .returned (.tuple #[cv none 0 0 none 0 0, I 2]) ∧ Ext w w') ∨ ((∀ i, i < n → 0 < X i ∧ 0 ≤ Y i) ∧ OdPost n X Y (I 0) (fun k => I k) w e w')

set_option maxRecDepth 100000 in
set_option maxHeartbeats 8000000 in
theorem rodd_in {w : World} {ba oa c bb ob e n : Nat} {X Y : Nat → Int} (r : Cur w ba oa bb ob n X Y) (h0 : 0 < n) (h1 : n ≤ 15) (bx : ∀ i, i < n → X i ≤ 9223372036854775807 ∧ Y i ≤ 9223372036854775807) :
    Calls Try.prog 28 #[.slice (some ⟨ba, oa, none⟩) n c, .slice (some ⟨bb, ob, none⟩) n e] w (ROdPost n X Y w) := by
  have R2 : Hid (∀ w', Ext (w.alloc (.cells #[.slice none 0 0, .slice none 0 0] 24)) w' → ∀ i, i < n → w'.cell? ⟨ba, oa + i, none⟩ = some (I (X i)) ∧ w'.cell? ⟨bb, ob + i, none⟩ = some (I (Y i))) := fun w' x i hi =>
    ⟨(r.ext ((Ext.alloc w _).trans x)).ca i hi, (r.ext ((Ext.alloc w _).trans x)).cb i hi⟩
  have HB := Lib.hid bx
  have hn15 : ¬ (15 : Int) < (n : Int) := by omega
  have hz : ((n : Int) == 0) = false := by simp; omega
  have hz2 : decide (n = 0) = false := by simp; omega
  have e1 : IntKind.i64.wrap ((n : Int) - 1) = (n : Int) - 1 := IntWalk.i64_in _ (by omega)
  have RB : Hid (∀ w', Ext (w.alloc (.cells #[.slice none 0 0, .slice none 0 0] 24)) w' → B2 w' w.heap.size (.slice none 0 0) (.slice none 0 0)) := fun w' x => (B2.new' w (.slice none 0 0) (.slice none 0 0) 24 (rfl : w.heap.size = _)).ext x
  clear r bx
  go_enter Try.func28, Try.ntmps28
  go_wp2_with fail
  go_loopw [7] (fun s wr => ∃ (k : Nat) (z : Int) (u v : Value), k ≤ n ∧ s = I z ∧ z + k + 1 = n ∧ Two2 (w.alloc (.cells #[.slice none 0 0, .slice none 0 0] 24)) (w.heap.size + 1) (w.heap.size + 1 + 1) 3 wr u v u v k k (rowL (od n X) k) (rowL (od n Y) k) ∧ Hid (∀ i, n - k ≤ i → i < n → 0 < X i ∧ 0 ≤ Y i)) (fun s _ => (intOf s + 1).toNat)
  case atStart => exact ⟨0, (n : Int) - 1, _, _, Nat.zero_le _, rfl, by omega, ⟨Ext.alloc _ _, B2.new' _ _ _ _ (by simp), World.ownsRow_nil _ _ _ _, World.ownsRow_nil _ _ _ _, .inl rfl, by simp⟩, fun i h1 h2 => absurd h2 (by omega)⟩
  case round =>
    obtain ⟨k, z, u, v, hk, rfl, hkz, D, HG⟩ := hrel
    clear e1
    by_cases hlt : k < n
    · obtain ⟨j, rfl⟩ : ∃ j : Nat, z = j := ⟨z.toNat, by omega⟩
      have hjn : j < n := by omega
      obtain ⟨xj, yj⟩ := R2.out _ D.ext j hjn
      obtain ⟨⟨r0, r1⟩, rf⟩ := RB.out _ D.ext
      have j2 : (j : Int) < (n : Int) := by omega
      have BAD : Hid (X j ≤ 0 ∨ Y j < 0 → ∃ i, i < n ∧ (X i ≤ 0 ∨ Y i < 0)) := fun h => ⟨j, hjn, h⟩
      have HE := Lib.hid D.ext
      have Q := Lib.hid (box_set (.slice none 0 0) (.slice none 0 0) r0 r1)
      by_cases q1 : X j ≤ 0
      · clear D HG hkz
        go_wp2_with fail
        exact bodyPost_ret (v := .tuple #[cv none 0 0 none 0 0, I 2]) (by simp [results, Try.results28, go_sem, Q.out.1, Q.out.2]) rfl (.inl ⟨BAD.out (.inl q1), rfl, (((Ext.alloc w _).trans HE.out).set (Nat.le_refl _) _).set (Nat.le_refl _) _⟩)
      by_cases q2 : Y j < 0
      · clear D HG hkz
        go_wp2_with fail
        exact bodyPost_ret (v := .tuple #[cv none 0 0 none 0 0, I 2]) (by simp [results, Try.results28, go_sem, Q.out.1, Q.out.2]) rfl (.inl ⟨BAD.out (.inr q2), rfl, (((Ext.alloc w _).trans HE.out).set (Nat.le_refl _) _).set (Nat.le_refl _) _⟩)
      have HG2 : Hid (∀ i, n - (k + 1) ≤ i → i < n → 0 < X i ∧ 0 ≤ Y i) := fun i h1 h2 => by
        by_cases h : i = j
        · subst h; exact ⟨by omega, by omega⟩
        · exact HG.out i (by omega) h2
      obtain ⟨bx1, by1⟩ := HB.out j hjn
      have a5 : IntKind.i64.wrap (-X j) = -X j := IntWalk.i64_in _ (by omega)
      have a6 : IntKind.i64.wrap (-Y j) = -Y j := IntWalk.i64_in _ (by omega)
      have HZX : Hid (od n X k = -X j) := by show od n X k = -X j; unfold od; rw [if_pos hlt, show n - 1 - k = j by omega]
      have HZY : Hid (od n Y k = -Y j) := by show od n Y k = -Y j; unfold od; rw [if_pos hlt, show n - 1 - k = j by omega]
      have HX : Hid (∀ w', Ext (w.alloc (.cells #[.slice none 0 0, .slice none 0 0] 24)) w' → w'.cell? ⟨ba, oa + j, none⟩ = some (I (X j)) ∧ w'.cell? ⟨bb, ob + j, none⟩ = some (I (Y j))) := fun w' x => R2.out w' x j hjn
      clear HG bx1 by1 r0 r1 rf Q BAD
      go_wp2_with fail
      have hm8 : k + 1 ≤ maxLen := by unfold maxLen; omega
      have hb8 : (k + 1) * 8 ≤ 140737488355328 := by omega
      obtain ⟨i0, hi0, hz0, hz1, hz9⟩ := info_parts infoInt
      clear xj yj
      refine wp_region_noPanic ?_
      refine Gated.begin (S := SG (fun w' => w'.cell? ⟨ba, oa + j, none⟩ = some (I (X j)) ∧ w'.cell? ⟨bb, ob + j, none⟩ = some (I (Y j))) 19 21 ⟨w.heap.size + 1, 0, none⟩ ⟨w.heap.size + 1, 1, none⟩ u v) (by rfl) ?_
      have D0 := D.drew
      (try simp only [Act.put, List.setIfInBounds_toArray, List.set_cons_zero, List.set_cons_succ])
      refine Gated.take (i := 0) (o := { dst := some 46, op := Op.fieldAddr 24 (Operand.tmp 6) 0, type := 0, pos := "ref.go:97", after := #[], guard := none }) (v := ?_) rfl (by as_aux_lemma => kernel_rfl) (by as_aux_lemma => kernel_rfl) (by as_aux_lemma => kernel_rfl) (fun _ _ _ h => h) (tillH (by decide) (by decide)) trivial (Or.inl ⟨by rfl, ?hy⟩) ⟨HX.out _ D0.ext, (fun _ => D0.box.1.1), (fun _ => D0.box.1.2)⟩ ?_
      case hy => ((intro w' hSw; (try dsimp only at hSw); go_simp); (try with_reducible rfl))
      (try simp only [Act.put, List.setIfInBounds_toArray, List.set_cons_zero, List.set_cons_succ])
      refine Gated.take (i := 1) (o := { dst := some 47, op := Op.load 22 (Operand.tmp 46), type := 22, pos := "ref.go:97", after := #[{ on := 0, ground := Ground.data }], guard := none }) (v := ?_) rfl (by as_aux_lemma => kernel_rfl) (by as_aux_lemma => kernel_rfl) (by as_aux_lemma => kernel_rfl) (fun _ _ _ h => h) (till0 (by decide) (by decide) rfl (by as_aux_lemma => kernel_rfl)) (by as_aux_lemma => kernel_rfl) (Or.inl ⟨by rfl, ?hy⟩) ⟨HX.out _ D0.ext, (fun _ => D0.box.1.1), (fun _ => D0.box.1.2)⟩ ?_
      case hy => ((intro w' hSw; (try dsimp only at hSw); go_simp); (try with_reducible rfl))
      (try simp only [Act.put, List.setIfInBounds_toArray, List.set_cons_zero, List.set_cons_succ])
      refine Gated.take (i := 2) (o := { dst := some 48, op := Op.move (Operand.tmp 0), type := 22, pos := "ref.go:97", after := #[], guard := none }) (v := ?_) rfl (by as_aux_lemma => kernel_rfl) (by as_aux_lemma => kernel_rfl) (by as_aux_lemma => kernel_rfl) (fun _ _ _ h => h) (tillH (by decide) (by decide)) trivial (Or.inl ⟨by rfl, ?hy⟩) ⟨HX.out _ D0.ext, (fun _ => D0.box.1.1), (fun _ => D0.box.1.2)⟩ ?_
      case hy => ((intro w' hSw; (try dsimp only at hSw); go_simp); (try with_reducible rfl))
      (try simp only [Act.put, List.setIfInBounds_toArray, List.set_cons_zero, List.set_cons_succ])
      refine Gated.take (i := 3) (o := { dst := some 49, op := Op.move (Operand.tmp 7), type := 3, pos := "ref.go:97", after := #[], guard := none }) (v := ?_) rfl (by as_aux_lemma => kernel_rfl) (by as_aux_lemma => kernel_rfl) (by as_aux_lemma => kernel_rfl) (fun _ _ _ h => h) (tillH (by decide) (by decide)) trivial (Or.inl ⟨by rfl, ?hy⟩) ⟨HX.out _ D0.ext, (fun _ => D0.box.1.1), (fun _ => D0.box.1.2)⟩ ?_
      case hy => ((intro w' hSw; (try dsimp only at hSw); go_simp); (try with_reducible rfl))
      (try simp only [Act.put, List.setIfInBounds_toArray, List.set_cons_zero, List.set_cons_succ])
      refine Gated.take (i := 4) (o := { dst := some 50, op := Op.indexAddr 22 (Operand.tmp 48) (Operand.tmp 49), type := 0, pos := "ref.go:97", after := #[{ on := 2, ground := Ground.data }, { on := 3, ground := Ground.data }], guard := none }) (v := ?_) rfl (by as_aux_lemma => kernel_rfl) (by as_aux_lemma => kernel_rfl) (by as_aux_lemma => kernel_rfl) (fun _ _ _ h => h) (tillH (by decide) (by decide)) trivial (Or.inl ⟨by rfl, ?hy⟩) ⟨HX.out _ D0.ext, (fun _ => D0.box.1.1), (fun _ => D0.box.1.2)⟩ ?_
      case hy => ((intro w' hSw; (try dsimp only at hSw); go_simp); (try with_reducible rfl))
      (try simp only [Act.put, List.setIfInBounds_toArray, List.set_cons_zero, List.set_cons_succ])
      refine Gated.take (i := 5) (o := { dst := some 51, op := Op.load 3 (Operand.tmp 50), type := 3, pos := "ref.go:97", after := #[{ on := 4, ground := Ground.data }], guard := none }) (v := ?_) rfl (by as_aux_lemma => kernel_rfl) (by as_aux_lemma => kernel_rfl) (by as_aux_lemma => kernel_rfl) (fun _ _ _ h => h) (tillH (by decide) (by decide)) trivial (Or.inl ⟨by rfl, ?hy⟩) ⟨HX.out _ D0.ext, (fun _ => D0.box.1.1), (fun _ => D0.box.1.2)⟩ ?_
      case hy => ((intro w' hSw; (try dsimp only at hSw); go_simp); (try with_reducible rfl))
      (try simp only [Act.put, List.setIfInBounds_toArray, List.set_cons_zero, List.set_cons_succ])
      refine Gated.take (i := 6) (o := { dst := some 52, op := Op.unOp UnOp.neg 3 (Operand.tmp 51), type := 3, pos := "ref.go:97", after := #[{ on := 5, ground := Ground.data }], guard := none }) (v := ?_) rfl (by as_aux_lemma => kernel_rfl) (by as_aux_lemma => kernel_rfl) (by as_aux_lemma => kernel_rfl) (fun _ _ _ h => h) (tillH (by decide) (by decide)) trivial (Or.inl ⟨by rfl, ?hy⟩) ⟨HX.out _ D0.ext, (fun _ => D0.box.1.1), (fun _ => D0.box.1.2)⟩ ?_
      case hy => ((intro w' hSw; (try dsimp only at hSw); go_simp); (try with_reducible rfl))
      (try simp only [Act.put, List.setIfInBounds_toArray, List.set_cons_zero, List.set_cons_succ])
      refine Gated.take (i := 9) (o := { dst := some 55, op := Op.fieldAddr 24 (Operand.tmp 6) 1, type := 0, pos := "ref.go:97", after := #[], guard := none }) (v := ?_) rfl (by as_aux_lemma => kernel_rfl) (by as_aux_lemma => kernel_rfl) (by as_aux_lemma => kernel_rfl) (fun _ _ _ h => h) (tillH (by decide) (by decide)) trivial (Or.inl ⟨by rfl, ?hy⟩) ⟨HX.out _ D0.ext, (fun _ => D0.box.1.1), (fun _ => D0.box.1.2)⟩ ?_
      case hy => ((intro w' hSw; (try dsimp only at hSw); go_simp); (try with_reducible rfl))
      (try simp only [Act.put, List.setIfInBounds_toArray, List.set_cons_zero, List.set_cons_succ])
      refine Gated.take (i := 10) (o := { dst := some 56, op := Op.load 22 (Operand.tmp 55), type := 22, pos := "ref.go:97", after := #[{ on := 9, ground := Ground.data }], guard := none }) (v := ?_) rfl (by as_aux_lemma => kernel_rfl) (by as_aux_lemma => kernel_rfl) (by as_aux_lemma => kernel_rfl) (fun _ _ _ h => h) (till1 (by decide) (by decide) rfl (by as_aux_lemma => kernel_rfl)) (by as_aux_lemma => kernel_rfl) (Or.inl ⟨by rfl, ?hy⟩) ⟨HX.out _ D0.ext, (fun _ => D0.box.1.1), (fun _ => D0.box.1.2)⟩ ?_
      case hy => ((intro w' hSw; (try dsimp only at hSw); go_simp); (try with_reducible rfl))
      (try simp only [Act.put, List.setIfInBounds_toArray, List.set_cons_zero, List.set_cons_succ])
      refine Gated.take (i := 11) (o := { dst := some 57, op := Op.move (Operand.tmp 1), type := 22, pos := "ref.go:97", after := #[], guard := none }) (v := ?_) rfl (by as_aux_lemma => kernel_rfl) (by as_aux_lemma => kernel_rfl) (by as_aux_lemma => kernel_rfl) (fun _ _ _ h => h) (tillH (by decide) (by decide)) trivial (Or.inl ⟨by rfl, ?hy⟩) ⟨HX.out _ D0.ext, (fun _ => D0.box.1.1), (fun _ => D0.box.1.2)⟩ ?_
      case hy => ((intro w' hSw; (try dsimp only at hSw); go_simp); (try with_reducible rfl))
      (try simp only [Act.put, List.setIfInBounds_toArray, List.set_cons_zero, List.set_cons_succ])
      refine Gated.take (i := 12) (o := { dst := some 58, op := Op.move (Operand.tmp 7), type := 3, pos := "ref.go:97", after := #[], guard := none }) (v := ?_) rfl (by as_aux_lemma => kernel_rfl) (by as_aux_lemma => kernel_rfl) (by as_aux_lemma => kernel_rfl) (fun _ _ _ h => h) (tillH (by decide) (by decide)) trivial (Or.inl ⟨by rfl, ?hy⟩) ⟨HX.out _ D0.ext, (fun _ => D0.box.1.1), (fun _ => D0.box.1.2)⟩ ?_
      case hy => ((intro w' hSw; (try dsimp only at hSw); go_simp); (try with_reducible rfl))
      (try simp only [Act.put, List.setIfInBounds_toArray, List.set_cons_zero, List.set_cons_succ])
      refine Gated.take (i := 13) (o := { dst := some 59, op := Op.indexAddr 22 (Operand.tmp 57) (Operand.tmp 58), type := 0, pos := "ref.go:97", after := #[{ on := 11, ground := Ground.data }, { on := 12, ground := Ground.data }], guard := none }) (v := ?_) rfl (by as_aux_lemma => kernel_rfl) (by as_aux_lemma => kernel_rfl) (by as_aux_lemma => kernel_rfl) (fun _ _ _ h => h) (tillH (by decide) (by decide)) trivial (Or.inl ⟨by rfl, ?hy⟩) ⟨HX.out _ D0.ext, (fun _ => D0.box.1.1), (fun _ => D0.box.1.2)⟩ ?_
      case hy => ((intro w' hSw; (try dsimp only at hSw); go_simp); (try with_reducible rfl))
      (try simp only [Act.put, List.setIfInBounds_toArray, List.set_cons_zero, List.set_cons_succ])
      refine Gated.take (i := 14) (o := { dst := some 60, op := Op.load 3 (Operand.tmp 59), type := 3, pos := "ref.go:97", after := #[{ on := 13, ground := Ground.data }], guard := none }) (v := ?_) rfl (by as_aux_lemma => kernel_rfl) (by as_aux_lemma => kernel_rfl) (by as_aux_lemma => kernel_rfl) (fun _ _ _ h => h) (tillH (by decide) (by decide)) trivial (Or.inl ⟨by rfl, ?hy⟩) ⟨HX.out _ D0.ext, (fun _ => D0.box.1.1), (fun _ => D0.box.1.2)⟩ ?_
      case hy => ((intro w' hSw; (try dsimp only at hSw); go_simp); (try with_reducible rfl))
      (try simp only [Act.put, List.setIfInBounds_toArray, List.set_cons_zero, List.set_cons_succ])
      refine Gated.take (i := 15) (o := { dst := some 61, op := Op.unOp UnOp.neg 3 (Operand.tmp 60), type := 3, pos := "ref.go:97", after := #[{ on := 14, ground := Ground.data }], guard := none }) (v := ?_) rfl (by as_aux_lemma => kernel_rfl) (by as_aux_lemma => kernel_rfl) (by as_aux_lemma => kernel_rfl) (fun _ _ _ h => h) (tillH (by decide) (by decide)) trivial (Or.inl ⟨by rfl, ?hy⟩) ⟨HX.out _ D0.ext, (fun _ => D0.box.1.1), (fun _ => D0.box.1.2)⟩ ?_
      case hy => ((intro w' hSw; (try dsimp only at hSw); go_simp); (try with_reducible rfl))
      (try simp only [Act.put, List.setIfInBounds_toArray, List.set_cons_zero, List.set_cons_succ])
      refine Gated.next (rs := [7, 16]) (by as_aux_lemma => kernel_rfl) (by simp) ?_
      refine Nexts.cons (j := 7) (o := { dst := some 53, op := Op.buildSlice 22 1 #[(0, Operand.tmp 52)], type := 22, pos := "ref.go:97", after := #[{ on := 6, ground := Ground.data }], guard := none }) rfl (fun K hK => ?_) ?_
      · have D1 := D0.alloc (.cells #[I (-X j)] 3)
        have nUD1 : (wr.drew.alloc (.cells #[I (-X j)] 3)).cell? ⟨wr.heap.size, 0, none⟩ = some (I (-X j)) := by go_simp
        go_simp
        refine hK.out _ _ ⟨HX.out _ D1.ext, (fun _ => D1.box.1.1), (fun _ => D1.box.1.2)⟩ (fun _ => ?_)
        clear hK K
        (try simp only [Act.put, List.setIfInBounds_toArray, List.set_cons_zero, List.set_cons_succ])
        refine Gated.next (rs := [8, 16]) (by as_aux_lemma => kernel_rfl) (by simp) ?_
        refine Nexts.cons (j := 8) (o := { dst := some 54, op := Op.call { callee := Callee.builtin Builtin.append, args := #[Operand.tmp 47, Operand.tmp 53], argTypes := #[22, 22] }, type := 22, pos := "ref.go:97", after := #[{ on := 1, ground := Ground.data }, { on := 7, ground := Ground.data }], guard := none }) rfl (fun K hK => ?_) ?_
        · refine step_append_lies _ (by rfl) (.tmp 47) (.tmp 53) 22 (by rfl) _ 3 i0 _ 1 8 Try.underlying22 hi0 hz0 hz1 hz9 rfl (by omega) u k (rowL (od n X) k) (by rfl) D1.ru _ 1 1 [I (-X j)] (by rfl) (by rfl) (news1 nUD1) (by simp [Value.oneCell']) (by omega) hm8 hb8 D1.gB.2.2 _ (by rfl) ?_
          intro gU capU wU hoU hgU haU hlU
          have D2 := D1.appU hoU hgU haU
          refine hK.out _ _ ⟨HX.out _ D2.ext, (fun _ => D2.box.1.1), (fun _ => D2.box.1.2)⟩ (fun _ => ?_)
          clear hK K
          (try simp only [Act.put, List.setIfInBounds_toArray, List.set_cons_zero, List.set_cons_succ])
          refine Gated.take (i := 18) (o := { dst := some 64, op := Op.fieldAddr 24 (Operand.tmp 6) 0, type := 0, pos := "ref.go:97", after := #[{ on := 0, ground := Ground.phase }, { on := 1, ground := Ground.phase }, { on := 2, ground := Ground.phase }, { on := 3, ground := Ground.phase }, { on := 4, ground := Ground.phase }, { on := 5, ground := Ground.phase }, { on := 6, ground := Ground.phase }, { on := 7, ground := Ground.phase }, { on := 8, ground := Ground.phase }, { on := 9, ground := Ground.phase }, { on := 10, ground := Ground.phase }, { on := 11, ground := Ground.textOnly Departure.lateStores }, { on := 12, ground := Ground.textOnly Departure.lateStores }, { on := 13, ground := Ground.textOnly Departure.lateStores }, { on := 14, ground := Ground.textOnly Departure.lateStores }, { on := 15, ground := Ground.textOnly Departure.lateStores }, { on := 16, ground := Ground.textOnly Departure.lateStores }, { on := 17, ground := Ground.textOnly Departure.lateStoresUnsure }], guard := none }) (v := ?_) rfl (by as_aux_lemma => kernel_rfl) (by as_aux_lemma => kernel_rfl) (by as_aux_lemma => kernel_rfl) (fun _ _ _ h => h) (tillH (by decide) (by decide)) trivial (Or.inl ⟨by rfl, ?hy⟩) ⟨HX.out _ D2.ext, (fun _ => D2.box.1.1), (fun _ => D2.box.1.2)⟩ ?_
          case hy => ((intro w' hSw; (try dsimp only at hSw); go_simp); (try with_reducible rfl))
          (try simp only [Act.put, List.setIfInBounds_toArray, List.set_cons_zero, List.set_cons_succ])
          refine Gated.next (rs := [16]) (by as_aux_lemma => kernel_rfl) (by simp) ?_
          refine Nexts.cons (j := 16) (o := { dst := some 62, op := Op.buildSlice 22 1 #[(0, Operand.tmp 61)], type := 22, pos := "ref.go:97", after := #[{ on := 15, ground := Ground.data }], guard := none }) rfl (fun K hK => ?_) Nexts.nil
          have D3 := D2.alloc (.cells #[I (-Y j)] 3)
          have fVD3 : some (wU.heap.size) ≠ (Value.slice (some ⟨gU, 0, none⟩) (k + 1) capU).ownBlock := own_fresh D2.ru (by simp)
          have nVD3 : (wU.alloc (.cells #[I (-Y j)] 3)).cell? ⟨wU.heap.size, 0, none⟩ = some (I (-Y j)) := by go_simp
          go_simp
          refine hK.out _ _ ⟨HX.out _ D3.ext, (fun _ => D3.box.1.1), (fun _ => D3.box.1.2)⟩ (fun _ => ?_)
          clear hK K
          (try simp only [Act.put, List.setIfInBounds_toArray, List.set_cons_zero, List.set_cons_succ])
          refine Gated.next (rs := [17]) (by as_aux_lemma => kernel_rfl) (by simp) ?_
          refine Nexts.cons (j := 17) (o := { dst := some 63, op := Op.call { callee := Callee.builtin Builtin.append, args := #[Operand.tmp 56, Operand.tmp 62], argTypes := #[22, 22] }, type := 22, pos := "ref.go:97", after := #[{ on := 10, ground := Ground.data }, { on := 16, ground := Ground.data }, { on := 8, ground := Ground.chain }], guard := none }) rfl (fun K hK => ?_) Nexts.nil
          refine step_append_lies _ (by rfl) (.tmp 56) (.tmp 62) 22 (by rfl) _ 3 i0 _ 1 8 Try.underlying22 hi0 hz0 hz1 hz9 rfl (by omega) v k (rowL (od n Y) k) (by rfl) D3.rv _ 1 1 [I (-Y j)] (by rfl) (by rfl) (news1 nVD3) (by simp [Value.oneCell']) (by omega) hm8 hb8 D3.gB.2.2 _ (by rfl) ?_
          intro gV capV wV hoV hgV haV hlV
          have D4 := D3.appV hoV hgV haV
          refine hK.out _ _ ⟨HX.out _ D4.ext, (fun _ => D4.box.1.1), (fun _ => D4.box.1.2)⟩ (fun _ => ?_)
          clear hK K
          (try simp only [Act.put, List.setIfInBounds_toArray, List.set_cons_zero, List.set_cons_succ])
          refine Gated.next (rs := [19]) (by as_aux_lemma => kernel_rfl) (by simp) ?_
          refine Nexts.cons (j := 19) (o := { dst := none, op := Op.store 22 (Operand.tmp 64) (Operand.tmp 54), type := 0, pos := "ref.go:97", after := #[{ on := 18, ground := Ground.data }, { on := 8, ground := Ground.data }, { on := 17, ground := Ground.chain }, { on := 0, ground := Ground.phase }, { on := 1, ground := Ground.phase }, { on := 2, ground := Ground.phase }, { on := 3, ground := Ground.phase }, { on := 4, ground := Ground.phase }, { on := 5, ground := Ground.phase }, { on := 6, ground := Ground.phase }, { on := 7, ground := Ground.phase }, { on := 8, ground := Ground.phase }, { on := 9, ground := Ground.phase }, { on := 10, ground := Ground.phase }, { on := 11, ground := Ground.textOnly Departure.lateStores }, { on := 12, ground := Ground.textOnly Departure.lateStores }, { on := 13, ground := Ground.textOnly Departure.lateStores }, { on := 14, ground := Ground.textOnly Departure.lateStores }, { on := 15, ground := Ground.textOnly Departure.lateStores }, { on := 16, ground := Ground.textOnly Departure.lateStores }, { on := 17, ground := Ground.textOnly Departure.lateStoresUnsure }], guard := none }) rfl (fun K hK => ?_) Nexts.nil
          obtain ⟨⟨b0D5, b1D5⟩, bfD5⟩ := D4.box
          have D5 := D4.set0 (.slice (some ⟨gU, 0, none⟩) (k + 1) capU)
          go_simp
          refine hK.out _ _ ⟨HX.out _ D5.ext, (no_ (by as_aux_lemma => kernel_rfl)), (fun _ => D5.box.1.2)⟩ (fun _ => ?_)
          clear hK K b0D5 b1D5 bfD5
          (try simp only [Act.put, List.setIfInBounds_toArray, List.set_cons_zero, List.set_cons_succ])
          refine Gated.take (i := 20) (o := { dst := some 65, op := Op.fieldAddr 24 (Operand.tmp 6) 1, type := 0, pos := "ref.go:97", after := #[{ on := 0, ground := Ground.phase }, { on := 1, ground := Ground.phase }, { on := 2, ground := Ground.phase }, { on := 3, ground := Ground.phase }, { on := 4, ground := Ground.phase }, { on := 5, ground := Ground.phase }, { on := 6, ground := Ground.phase }, { on := 7, ground := Ground.phase }, { on := 8, ground := Ground.phase }, { on := 9, ground := Ground.phase }, { on := 10, ground := Ground.phase }, { on := 11, ground := Ground.phase }, { on := 12, ground := Ground.phase }, { on := 13, ground := Ground.phase }, { on := 14, ground := Ground.phase }, { on := 15, ground := Ground.phase }, { on := 16, ground := Ground.phase }, { on := 17, ground := Ground.phase }, { on := 18, ground := Ground.phase }, { on := 19, ground := Ground.phase }], guard := none }) (v := ?_) rfl (by as_aux_lemma => kernel_rfl) (by as_aux_lemma => kernel_rfl) (by as_aux_lemma => kernel_rfl) (fun _ _ _ h => h) (tillH (by decide) (by decide)) trivial (Or.inl ⟨by rfl, ?hy⟩) ⟨HX.out _ D5.ext, (no_ (by as_aux_lemma => kernel_rfl)), (fun _ => D5.box.1.2)⟩ ?_
          case hy => ((intro w' hSw; (try dsimp only at hSw); go_simp); (try with_reducible rfl))
          (try simp only [Act.put, List.setIfInBounds_toArray, List.set_cons_zero, List.set_cons_succ])
          refine Gated.next (rs := [21]) (by as_aux_lemma => kernel_rfl) (by simp) ?_
          refine Nexts.cons (j := 21) (o := { dst := none, op := Op.store 22 (Operand.tmp 65) (Operand.tmp 63), type := 0, pos := "ref.go:97", after := #[{ on := 20, ground := Ground.data }, { on := 17, ground := Ground.data }, { on := 19, ground := Ground.chain }, { on := 0, ground := Ground.phase }, { on := 1, ground := Ground.phase }, { on := 2, ground := Ground.phase }, { on := 3, ground := Ground.phase }, { on := 4, ground := Ground.phase }, { on := 5, ground := Ground.phase }, { on := 6, ground := Ground.phase }, { on := 7, ground := Ground.phase }, { on := 8, ground := Ground.phase }, { on := 9, ground := Ground.phase }, { on := 10, ground := Ground.phase }, { on := 11, ground := Ground.phase }, { on := 12, ground := Ground.phase }, { on := 13, ground := Ground.phase }, { on := 14, ground := Ground.phase }, { on := 15, ground := Ground.phase }, { on := 16, ground := Ground.phase }, { on := 17, ground := Ground.phase }, { on := 18, ground := Ground.phase }, { on := 19, ground := Ground.phase }], guard := none }) rfl (fun K hK => ?_) Nexts.nil
          obtain ⟨⟨b0D6, b1D6⟩, bfD6⟩ := D5.box
          have D6 := D5.set1 (.slice (some ⟨gV, 0, none⟩) (k + 1) capV)
          go_simp
          refine hK.out _ _ ⟨HX.out _ D6.ext, (no_ (by as_aux_lemma => kernel_rfl)), (no_ (by as_aux_lemma => kernel_rfl))⟩ (fun _ => ?_)
          clear hK K b0D6 b1D6 bfD6
          (try simp only [Act.put, List.setIfInBounds_toArray, List.set_cons_zero, List.set_cons_succ])
          refine Gated.done (by as_aux_lemma => kernel_rfl) ?_
          (try refine NoPanic.normal ?_)
          have DE := D6
          rw [← rowL_succ' HZX.out, ← rowL_succ' HZY.out] at DE
          go_wp2_with fail
          go_roundw
          case rel => exact ⟨k + 1, (j : Int) - 1, _, _, by omega, by go_num, by omega, DE, HG2⟩
          case measure => simp [intOf] <;> omega
        refine Nexts.cons (j := 16) (o := { dst := some 62, op := Op.buildSlice 22 1 #[(0, Operand.tmp 61)], type := 22, pos := "ref.go:97", after := #[{ on := 15, ground := Ground.data }], guard := none }) rfl (fun K hK => ?_) ?_
        · have D7 := D1.alloc (.cells #[I (-Y j)] 3)
          have fVD7 : some (wr.heap.size + 1) ≠ u.ownBlock := own_fresh D1.ru (by simp)
          have nUD7 : ((wr.drew.alloc (.cells #[I (-X j)] 3)).alloc (.cells #[I (-Y j)] 3)).cell? ⟨wr.heap.size, 0, none⟩ = some (I (-X j)) := ((Ext.alloc (wr.drew.alloc (.cells #[I (-X j)] 3)) _).old.1 _ 0 (by simp)).trans nUD1
          have nVD7 : ((wr.drew.alloc (.cells #[I (-X j)] 3)).alloc (.cells #[I (-Y j)] 3)).cell? ⟨wr.heap.size + 1, 0, none⟩ = some (I (-Y j)) := by go_simp
          go_simp
          refine hK.out _ _ ⟨HX.out _ D7.ext, (fun _ => D7.box.1.1), (fun _ => D7.box.1.2)⟩ (fun _ => ?_)
          clear hK K
          (try simp only [Act.put, List.setIfInBounds_toArray, List.set_cons_zero, List.set_cons_succ])
          refine Gated.next (rs := [8]) (by as_aux_lemma => kernel_rfl) (by simp) ?_
          refine Nexts.cons (j := 8) (o := { dst := some 54, op := Op.call { callee := Callee.builtin Builtin.append, args := #[Operand.tmp 47, Operand.tmp 53], argTypes := #[22, 22] }, type := 22, pos := "ref.go:97", after := #[{ on := 1, ground := Ground.data }, { on := 7, ground := Ground.data }], guard := none }) rfl (fun K hK => ?_) Nexts.nil
          refine step_append_lies _ (by rfl) (.tmp 47) (.tmp 53) 22 (by rfl) _ 3 i0 _ 1 8 Try.underlying22 hi0 hz0 hz1 hz9 rfl (by omega) u k (rowL (od n X) k) (by rfl) D7.ru _ 1 1 [I (-X j)] (by rfl) (by rfl) (news1 nUD7) (by simp [Value.oneCell']) (by omega) hm8 hb8 D7.gB.2.2 _ (by rfl) ?_
          intro gU capU wU hoU hgU haU hlU
          have D8 := D7.appU hoU hgU haU
          have nVD8 := hgU.cell nVD7 fVD7
          refine hK.out _ _ ⟨HX.out _ D8.ext, (fun _ => D8.box.1.1), (fun _ => D8.box.1.2)⟩ (fun _ => ?_)
          clear hK K
          (try simp only [Act.put, List.setIfInBounds_toArray, List.set_cons_zero, List.set_cons_succ])
          refine Gated.take (i := 18) (o := { dst := some 64, op := Op.fieldAddr 24 (Operand.tmp 6) 0, type := 0, pos := "ref.go:97", after := #[{ on := 0, ground := Ground.phase }, { on := 1, ground := Ground.phase }, { on := 2, ground := Ground.phase }, { on := 3, ground := Ground.phase }, { on := 4, ground := Ground.phase }, { on := 5, ground := Ground.phase }, { on := 6, ground := Ground.phase }, { on := 7, ground := Ground.phase }, { on := 8, ground := Ground.phase }, { on := 9, ground := Ground.phase }, { on := 10, ground := Ground.phase }, { on := 11, ground := Ground.textOnly Departure.lateStores }, { on := 12, ground := Ground.textOnly Departure.lateStores }, { on := 13, ground := Ground.textOnly Departure.lateStores }, { on := 14, ground := Ground.textOnly Departure.lateStores }, { on := 15, ground := Ground.textOnly Departure.lateStores }, { on := 16, ground := Ground.textOnly Departure.lateStores }, { on := 17, ground := Ground.textOnly Departure.lateStoresUnsure }], guard := none }) (v := ?_) rfl (by as_aux_lemma => kernel_rfl) (by as_aux_lemma => kernel_rfl) (by as_aux_lemma => kernel_rfl) (fun _ _ _ h => h) (tillH (by decide) (by decide)) trivial (Or.inl ⟨by rfl, ?hy⟩) ⟨HX.out _ D8.ext, (fun _ => D8.box.1.1), (fun _ => D8.box.1.2)⟩ ?_
          case hy => ((intro w' hSw; (try dsimp only at hSw); go_simp); (try with_reducible rfl))
          (try simp only [Act.put, List.setIfInBounds_toArray, List.set_cons_zero, List.set_cons_succ])
          refine Gated.next (rs := [17]) (by as_aux_lemma => kernel_rfl) (by simp) ?_
          refine Nexts.cons (j := 17) (o := { dst := some 63, op := Op.call { callee := Callee.builtin Builtin.append, args := #[Operand.tmp 56, Operand.tmp 62], argTypes := #[22, 22] }, type := 22, pos := "ref.go:97", after := #[{ on := 10, ground := Ground.data }, { on := 16, ground := Ground.data }, { on := 8, ground := Ground.chain }], guard := none }) rfl (fun K hK => ?_) Nexts.nil
          refine step_append_lies _ (by rfl) (.tmp 56) (.tmp 62) 22 (by rfl) _ 3 i0 _ 1 8 Try.underlying22 hi0 hz0 hz1 hz9 rfl (by omega) v k (rowL (od n Y) k) (by rfl) D8.rv _ 1 1 [I (-Y j)] (by rfl) (by rfl) (news1 nVD8) (by simp [Value.oneCell']) (by omega) hm8 hb8 D8.gB.2.2 _ (by rfl) ?_
          intro gV capV wV hoV hgV haV hlV
          have D9 := D8.appV hoV hgV haV
          refine hK.out _ _ ⟨HX.out _ D9.ext, (fun _ => D9.box.1.1), (fun _ => D9.box.1.2)⟩ (fun _ => ?_)
          clear hK K
          (try simp only [Act.put, List.setIfInBounds_toArray, List.set_cons_zero, List.set_cons_succ])
          refine Gated.next (rs := [19]) (by as_aux_lemma => kernel_rfl) (by simp) ?_
          refine Nexts.cons (j := 19) (o := { dst := none, op := Op.store 22 (Operand.tmp 64) (Operand.tmp 54), type := 0, pos := "ref.go:97", after := #[{ on := 18, ground := Ground.data }, { on := 8, ground := Ground.data }, { on := 17, ground := Ground.chain }, { on := 0, ground := Ground.phase }, { on := 1, ground := Ground.phase }, { on := 2, ground := Ground.phase }, { on := 3, ground := Ground.phase }, { on := 4, ground := Ground.phase }, { on := 5, ground := Ground.phase }, { on := 6, ground := Ground.phase }, { on := 7, ground := Ground.phase }, { on := 8, ground := Ground.phase }, { on := 9, ground := Ground.phase }, { on := 10, ground := Ground.phase }, { on := 11, ground := Ground.textOnly Departure.lateStores }, { on := 12, ground := Ground.textOnly Departure.lateStores }, { on := 13, ground := Ground.textOnly Departure.lateStores }, { on := 14, ground := Ground.textOnly Departure.lateStores }, { on := 15, ground := Ground.textOnly Departure.lateStores }, { on := 16, ground := Ground.textOnly Departure.lateStores }, { on := 17, ground := Ground.textOnly Departure.lateStoresUnsure }], guard := none }) rfl (fun K hK => ?_) Nexts.nil
          obtain ⟨⟨b0D10, b1D10⟩, bfD10⟩ := D9.box
          have D10 := D9.set0 (.slice (some ⟨gU, 0, none⟩) (k + 1) capU)
          go_simp
          refine hK.out _ _ ⟨HX.out _ D10.ext, (no_ (by as_aux_lemma => kernel_rfl)), (fun _ => D10.box.1.2)⟩ (fun _ => ?_)
          clear hK K b0D10 b1D10 bfD10
          (try simp only [Act.put, List.setIfInBounds_toArray, List.set_cons_zero, List.set_cons_succ])
          refine Gated.take (i := 20) (o := { dst := some 65, op := Op.fieldAddr 24 (Operand.tmp 6) 1, type := 0, pos := "ref.go:97", after := #[{ on := 0, ground := Ground.phase }, { on := 1, ground := Ground.phase }, { on := 2, ground := Ground.phase }, { on := 3, ground := Ground.phase }, { on := 4, ground := Ground.phase }, { on := 5, ground := Ground.phase }, { on := 6, ground := Ground.phase }, { on := 7, ground := Ground.phase }, { on := 8, ground := Ground.phase }, { on := 9, ground := Ground.phase }, { on := 10, ground := Ground.phase }, { on := 11, ground := Ground.phase }, { on := 12, ground := Ground.phase }, { on := 13, ground := Ground.phase }, { on := 14, ground := Ground.phase }, { on := 15, ground := Ground.phase }, { on := 16, ground := Ground.phase }, { on := 17, ground := Ground.phase }, { on := 18, ground := Ground.phase }, { on := 19, ground := Ground.phase }], guard := none }) (v := ?_) rfl (by as_aux_lemma => kernel_rfl) (by as_aux_lemma => kernel_rfl) (by as_aux_lemma => kernel_rfl) (fun _ _ _ h => h) (tillH (by decide) (by decide)) trivial (Or.inl ⟨by rfl, ?hy⟩) ⟨HX.out _ D10.ext, (no_ (by as_aux_lemma => kernel_rfl)), (fun _ => D10.box.1.2)⟩ ?_
          case hy => ((intro w' hSw; (try dsimp only at hSw); go_simp); (try with_reducible rfl))
          (try simp only [Act.put, List.setIfInBounds_toArray, List.set_cons_zero, List.set_cons_succ])
          refine Gated.next (rs := [21]) (by as_aux_lemma => kernel_rfl) (by simp) ?_
          refine Nexts.cons (j := 21) (o := { dst := none, op := Op.store 22 (Operand.tmp 65) (Operand.tmp 63), type := 0, pos := "ref.go:97", after := #[{ on := 20, ground := Ground.data }, { on := 17, ground := Ground.data }, { on := 19, ground := Ground.chain }, { on := 0, ground := Ground.phase }, { on := 1, ground := Ground.phase }, { on := 2, ground := Ground.phase }, { on := 3, ground := Ground.phase }, { on := 4, ground := Ground.phase }, { on := 5, ground := Ground.phase }, { on := 6, ground := Ground.phase }, { on := 7, ground := Ground.phase }, { on := 8, ground := Ground.phase }, { on := 9, ground := Ground.phase }, { on := 10, ground := Ground.phase }, { on := 11, ground := Ground.phase }, { on := 12, ground := Ground.phase }, { on := 13, ground := Ground.phase }, { on := 14, ground := Ground.phase }, { on := 15, ground := Ground.phase }, { on := 16, ground := Ground.phase }, { on := 17, ground := Ground.phase }, { on := 18, ground := Ground.phase }, { on := 19, ground := Ground.phase }], guard := none }) rfl (fun K hK => ?_) Nexts.nil
          obtain ⟨⟨b0D11, b1D11⟩, bfD11⟩ := D10.box
          have D11 := D10.set1 (.slice (some ⟨gV, 0, none⟩) (k + 1) capV)
          go_simp
          refine hK.out _ _ ⟨HX.out _ D11.ext, (no_ (by as_aux_lemma => kernel_rfl)), (no_ (by as_aux_lemma => kernel_rfl))⟩ (fun _ => ?_)
          clear hK K b0D11 b1D11 bfD11
          (try simp only [Act.put, List.setIfInBounds_toArray, List.set_cons_zero, List.set_cons_succ])
          refine Gated.done (by as_aux_lemma => kernel_rfl) ?_
          (try refine NoPanic.normal ?_)
          have DE := D11
          rw [← rowL_succ' HZX.out, ← rowL_succ' HZY.out] at DE
          go_wp2_with fail
          go_roundw
          case rel => exact ⟨k + 1, (j : Int) - 1, _, _, by omega, by go_num, by omega, DE, HG2⟩
          case measure => simp [intOf] <;> omega
        exact Nexts.nil
      refine Nexts.cons (j := 16) (o := { dst := some 62, op := Op.buildSlice 22 1 #[(0, Operand.tmp 61)], type := 22, pos := "ref.go:97", after := #[{ on := 15, ground := Ground.data }], guard := none }) rfl (fun K hK => ?_) ?_
      · have D12 := D0.alloc (.cells #[I (-Y j)] 3)
        have fVD12 : some (wr.heap.size) ≠ u.ownBlock := own_fresh D0.ru (by simp)
        have nVD12 : (wr.drew.alloc (.cells #[I (-Y j)] 3)).cell? ⟨wr.heap.size, 0, none⟩ = some (I (-Y j)) := by go_simp
        go_simp
        refine hK.out _ _ ⟨HX.out _ D12.ext, (fun _ => D12.box.1.1), (fun _ => D12.box.1.2)⟩ (fun _ => ?_)
        clear hK K
        (try simp only [Act.put, List.setIfInBounds_toArray, List.set_cons_zero, List.set_cons_succ])
        refine Gated.next (rs := [7]) (by as_aux_lemma => kernel_rfl) (by simp) ?_
        refine Nexts.cons (j := 7) (o := { dst := some 53, op := Op.buildSlice 22 1 #[(0, Operand.tmp 52)], type := 22, pos := "ref.go:97", after := #[{ on := 6, ground := Ground.data }], guard := none }) rfl (fun K hK => ?_) Nexts.nil
        have D13 := D12.alloc (.cells #[I (-X j)] 3)
        have nVD13 : ((wr.drew.alloc (.cells #[I (-Y j)] 3)).alloc (.cells #[I (-X j)] 3)).cell? ⟨wr.heap.size, 0, none⟩ = some (I (-Y j)) := ((Ext.alloc (wr.drew.alloc (.cells #[I (-Y j)] 3)) _).old.1 _ 0 (by simp)).trans nVD12
        have nUD13 : ((wr.drew.alloc (.cells #[I (-Y j)] 3)).alloc (.cells #[I (-X j)] 3)).cell? ⟨wr.heap.size + 1, 0, none⟩ = some (I (-X j)) := by go_simp
        go_simp
        refine hK.out _ _ ⟨HX.out _ D13.ext, (fun _ => D13.box.1.1), (fun _ => D13.box.1.2)⟩ (fun _ => ?_)
        clear hK K
        (try simp only [Act.put, List.setIfInBounds_toArray, List.set_cons_zero, List.set_cons_succ])
        refine Gated.next (rs := [8]) (by as_aux_lemma => kernel_rfl) (by simp) ?_
        refine Nexts.cons (j := 8) (o := { dst := some 54, op := Op.call { callee := Callee.builtin Builtin.append, args := #[Operand.tmp 47, Operand.tmp 53], argTypes := #[22, 22] }, type := 22, pos := "ref.go:97", after := #[{ on := 1, ground := Ground.data }, { on := 7, ground := Ground.data }], guard := none }) rfl (fun K hK => ?_) Nexts.nil
        refine step_append_lies _ (by rfl) (.tmp 47) (.tmp 53) 22 (by rfl) _ 3 i0 _ 1 8 Try.underlying22 hi0 hz0 hz1 hz9 rfl (by omega) u k (rowL (od n X) k) (by rfl) D13.ru _ 1 1 [I (-X j)] (by rfl) (by rfl) (news1 nUD13) (by simp [Value.oneCell']) (by omega) hm8 hb8 D13.gB.2.2 _ (by rfl) ?_
        intro gU capU wU hoU hgU haU hlU
        have D14 := D13.appU hoU hgU haU
        have nVD14 := hgU.cell nVD13 fVD12
        refine hK.out _ _ ⟨HX.out _ D14.ext, (fun _ => D14.box.1.1), (fun _ => D14.box.1.2)⟩ (fun _ => ?_)
        clear hK K
        (try simp only [Act.put, List.setIfInBounds_toArray, List.set_cons_zero, List.set_cons_succ])
        refine Gated.take (i := 18) (o := { dst := some 64, op := Op.fieldAddr 24 (Operand.tmp 6) 0, type := 0, pos := "ref.go:97", after := #[{ on := 0, ground := Ground.phase }, { on := 1, ground := Ground.phase }, { on := 2, ground := Ground.phase }, { on := 3, ground := Ground.phase }, { on := 4, ground := Ground.phase }, { on := 5, ground := Ground.phase }, { on := 6, ground := Ground.phase }, { on := 7, ground := Ground.phase }, { on := 8, ground := Ground.phase }, { on := 9, ground := Ground.phase }, { on := 10, ground := Ground.phase }, { on := 11, ground := Ground.textOnly Departure.lateStores }, { on := 12, ground := Ground.textOnly Departure.lateStores }, { on := 13, ground := Ground.textOnly Departure.lateStores }, { on := 14, ground := Ground.textOnly Departure.lateStores }, { on := 15, ground := Ground.textOnly Departure.lateStores }, { on := 16, ground := Ground.textOnly Departure.lateStores }, { on := 17, ground := Ground.textOnly Departure.lateStoresUnsure }], guard := none }) (v := ?_) rfl (by as_aux_lemma => kernel_rfl) (by as_aux_lemma => kernel_rfl) (by as_aux_lemma => kernel_rfl) (fun _ _ _ h => h) (tillH (by decide) (by decide)) trivial (Or.inl ⟨by rfl, ?hy⟩) ⟨HX.out _ D14.ext, (fun _ => D14.box.1.1), (fun _ => D14.box.1.2)⟩ ?_
        case hy => ((intro w' hSw; (try dsimp only at hSw); go_simp); (try with_reducible rfl))
        (try simp only [Act.put, List.setIfInBounds_toArray, List.set_cons_zero, List.set_cons_succ])
        refine Gated.next (rs := [17]) (by as_aux_lemma => kernel_rfl) (by simp) ?_
        refine Nexts.cons (j := 17) (o := { dst := some 63, op := Op.call { callee := Callee.builtin Builtin.append, args := #[Operand.tmp 56, Operand.tmp 62], argTypes := #[22, 22] }, type := 22, pos := "ref.go:97", after := #[{ on := 10, ground := Ground.data }, { on := 16, ground := Ground.data }, { on := 8, ground := Ground.chain }], guard := none }) rfl (fun K hK => ?_) Nexts.nil
        refine step_append_lies _ (by rfl) (.tmp 56) (.tmp 62) 22 (by rfl) _ 3 i0 _ 1 8 Try.underlying22 hi0 hz0 hz1 hz9 rfl (by omega) v k (rowL (od n Y) k) (by rfl) D14.rv _ 1 1 [I (-Y j)] (by rfl) (by rfl) (news1 nVD14) (by simp [Value.oneCell']) (by omega) hm8 hb8 D14.gB.2.2 _ (by rfl) ?_
        intro gV capV wV hoV hgV haV hlV
        have D15 := D14.appV hoV hgV haV
        refine hK.out _ _ ⟨HX.out _ D15.ext, (fun _ => D15.box.1.1), (fun _ => D15.box.1.2)⟩ (fun _ => ?_)
        clear hK K
        (try simp only [Act.put, List.setIfInBounds_toArray, List.set_cons_zero, List.set_cons_succ])
        refine Gated.next (rs := [19]) (by as_aux_lemma => kernel_rfl) (by simp) ?_
        refine Nexts.cons (j := 19) (o := { dst := none, op := Op.store 22 (Operand.tmp 64) (Operand.tmp 54), type := 0, pos := "ref.go:97", after := #[{ on := 18, ground := Ground.data }, { on := 8, ground := Ground.data }, { on := 17, ground := Ground.chain }, { on := 0, ground := Ground.phase }, { on := 1, ground := Ground.phase }, { on := 2, ground := Ground.phase }, { on := 3, ground := Ground.phase }, { on := 4, ground := Ground.phase }, { on := 5, ground := Ground.phase }, { on := 6, ground := Ground.phase }, { on := 7, ground := Ground.phase }, { on := 8, ground := Ground.phase }, { on := 9, ground := Ground.phase }, { on := 10, ground := Ground.phase }, { on := 11, ground := Ground.textOnly Departure.lateStores }, { on := 12, ground := Ground.textOnly Departure.lateStores }, { on := 13, ground := Ground.textOnly Departure.lateStores }, { on := 14, ground := Ground.textOnly Departure.lateStores }, { on := 15, ground := Ground.textOnly Departure.lateStores }, { on := 16, ground := Ground.textOnly Departure.lateStores }, { on := 17, ground := Ground.textOnly Departure.lateStoresUnsure }], guard := none }) rfl (fun K hK => ?_) Nexts.nil
        obtain ⟨⟨b0D16, b1D16⟩, bfD16⟩ := D15.box
        have D16 := D15.set0 (.slice (some ⟨gU, 0, none⟩) (k + 1) capU)
        go_simp
        refine hK.out _ _ ⟨HX.out _ D16.ext, (no_ (by as_aux_lemma => kernel_rfl)), (fun _ => D16.box.1.2)⟩ (fun _ => ?_)
        clear hK K b0D16 b1D16 bfD16
        (try simp only [Act.put, List.setIfInBounds_toArray, List.set_cons_zero, List.set_cons_succ])
        refine Gated.take (i := 20) (o := { dst := some 65, op := Op.fieldAddr 24 (Operand.tmp 6) 1, type := 0, pos := "ref.go:97", after := #[{ on := 0, ground := Ground.phase }, { on := 1, ground := Ground.phase }, { on := 2, ground := Ground.phase }, { on := 3, ground := Ground.phase }, { on := 4, ground := Ground.phase }, { on := 5, ground := Ground.phase }, { on := 6, ground := Ground.phase }, { on := 7, ground := Ground.phase }, { on := 8, ground := Ground.phase }, { on := 9, ground := Ground.phase }, { on := 10, ground := Ground.phase }, { on := 11, ground := Ground.phase }, { on := 12, ground := Ground.phase }, { on := 13, ground := Ground.phase }, { on := 14, ground := Ground.phase }, { on := 15, ground := Ground.phase }, { on := 16, ground := Ground.phase }, { on := 17, ground := Ground.phase }, { on := 18, ground := Ground.phase }, { on := 19, ground := Ground.phase }], guard := none }) (v := ?_) rfl (by as_aux_lemma => kernel_rfl) (by as_aux_lemma => kernel_rfl) (by as_aux_lemma => kernel_rfl) (fun _ _ _ h => h) (tillH (by decide) (by decide)) trivial (Or.inl ⟨by rfl, ?hy⟩) ⟨HX.out _ D16.ext, (no_ (by as_aux_lemma => kernel_rfl)), (fun _ => D16.box.1.2)⟩ ?_
        case hy => ((intro w' hSw; (try dsimp only at hSw); go_simp); (try with_reducible rfl))
        (try simp only [Act.put, List.setIfInBounds_toArray, List.set_cons_zero, List.set_cons_succ])
        refine Gated.next (rs := [21]) (by as_aux_lemma => kernel_rfl) (by simp) ?_
        refine Nexts.cons (j := 21) (o := { dst := none, op := Op.store 22 (Operand.tmp 65) (Operand.tmp 63), type := 0, pos := "ref.go:97", after := #[{ on := 20, ground := Ground.data }, { on := 17, ground := Ground.data }, { on := 19, ground := Ground.chain }, { on := 0, ground := Ground.phase }, { on := 1, ground := Ground.phase }, { on := 2, ground := Ground.phase }, { on := 3, ground := Ground.phase }, { on := 4, ground := Ground.phase }, { on := 5, ground := Ground.phase }, { on := 6, ground := Ground.phase }, { on := 7, ground := Ground.phase }, { on := 8, ground := Ground.phase }, { on := 9, ground := Ground.phase }, { on := 10, ground := Ground.phase }, { on := 11, ground := Ground.phase }, { on := 12, ground := Ground.phase }, { on := 13, ground := Ground.phase }, { on := 14, ground := Ground.phase }, { on := 15, ground := Ground.phase }, { on := 16, ground := Ground.phase }, { on := 17, ground := Ground.phase }, { on := 18, ground := Ground.phase }, { on := 19, ground := Ground.phase }], guard := none }) rfl (fun K hK => ?_) Nexts.nil
        obtain ⟨⟨b0D17, b1D17⟩, bfD17⟩ := D16.box
        have D17 := D16.set1 (.slice (some ⟨gV, 0, none⟩) (k + 1) capV)
        go_simp
        refine hK.out _ _ ⟨HX.out _ D17.ext, (no_ (by as_aux_lemma => kernel_rfl)), (no_ (by as_aux_lemma => kernel_rfl))⟩ (fun _ => ?_)
        clear hK K b0D17 b1D17 bfD17
        (try simp only [Act.put, List.setIfInBounds_toArray, List.set_cons_zero, List.set_cons_succ])
        refine Gated.done (by as_aux_lemma => kernel_rfl) ?_
        (try refine NoPanic.normal ?_)
        have DE := D17
        rw [← rowL_succ' HZX.out, ← rowL_succ' HZY.out] at DE
        go_wp2_with fail
        go_roundw
        case rel => exact ⟨k + 1, (j : Int) - 1, _, _, by omega, by go_num, by omega, DE, HG2⟩
        case measure => simp [intOf] <;> omega
      exact Nexts.nil
    · obtain rfl : k = n := by omega
      obtain rfl : z = -1 := by omega
      have HGG : Hid (∀ i, i < k → 0 < X i ∧ 0 ≤ Y i) := fun i hi => HG.out i (by omega) hi
      clear HG hkz hk hlt
      go_upto_region 12 with fail
      go_cut [] (fun wx => ∃ u v, Two2 (w.alloc (.cells #[.slice none 0 0, .slice none 0 0] 24)) (w.heap.size + 1) (w.heap.size + 1 + 1) 3 wx u v u v (k + 1) (k + 1) (rowL (od k X) (k + 1)) (rowL (od k Y) (k + 1)))
      case first =>
        have HZX : Hid (od k X k = 0) := by show od k X k = 0; unfold od; rw [if_neg (by omega), if_pos rfl]
        have HZY : Hid (od k Y k = 0) := by show od k Y k = 0; unfold od; rw [if_neg (by omega), if_pos rfl]
        have HX : Hid (∀ w', Ext (w.alloc (.cells #[.slice none 0 0, .slice none 0 0] 24)) w' → True) := fun _ _ => trivial
        have hm8 : k + 1 ≤ maxLen := by unfold maxLen; omega
        have hb8 : (k + 1) * 8 ≤ 140737488355328 := by omega
        obtain ⟨i0, hi0, hz0, hz1, hz9⟩ := info_parts infoInt
        refine wp_region_noPanic ?_
        refine Gated.begin (S := SG (fun _ => True) 9 11 ⟨w.heap.size + 1, 0, none⟩ ⟨w.heap.size + 1, 1, none⟩ u v) (by rfl) ?_
        have D0 := D.drew
        (try simp only [Act.put, List.setIfInBounds_toArray, List.set_cons_zero, List.set_cons_succ])
        refine Gated.take (i := 0) (o := { dst := some 66, op := Op.fieldAddr 24 (Operand.tmp 6) 0, type := 0, pos := "ref.go:99", after := #[], guard := none }) (v := ?_) rfl (by as_aux_lemma => kernel_rfl) (by as_aux_lemma => kernel_rfl) (by as_aux_lemma => kernel_rfl) (fun _ _ _ h => h) (tillH (by decide) (by decide)) trivial (Or.inl ⟨by rfl, ?hy⟩) ⟨HX.out _ D0.ext, (fun _ => D0.box.1.1), (fun _ => D0.box.1.2)⟩ ?_
        case hy => ((intro w' hSw; (try dsimp only at hSw); go_simp); (try with_reducible rfl))
        (try simp only [Act.put, List.setIfInBounds_toArray, List.set_cons_zero, List.set_cons_succ])
        refine Gated.take (i := 1) (o := { dst := some 67, op := Op.load 22 (Operand.tmp 66), type := 22, pos := "ref.go:99", after := #[{ on := 0, ground := Ground.data }], guard := none }) (v := ?_) rfl (by as_aux_lemma => kernel_rfl) (by as_aux_lemma => kernel_rfl) (by as_aux_lemma => kernel_rfl) (fun _ _ _ h => h) (till0 (by decide) (by decide) rfl (by as_aux_lemma => kernel_rfl)) (by as_aux_lemma => kernel_rfl) (Or.inl ⟨by rfl, ?hy⟩) ⟨HX.out _ D0.ext, (fun _ => D0.box.1.1), (fun _ => D0.box.1.2)⟩ ?_
        case hy => ((intro w' hSw; (try dsimp only at hSw); go_simp); (try with_reducible rfl))
        (try simp only [Act.put, List.setIfInBounds_toArray, List.set_cons_zero, List.set_cons_succ])
        refine Gated.take (i := 4) (o := { dst := some 70, op := Op.fieldAddr 24 (Operand.tmp 6) 1, type := 0, pos := "ref.go:99", after := #[], guard := none }) (v := ?_) rfl (by as_aux_lemma => kernel_rfl) (by as_aux_lemma => kernel_rfl) (by as_aux_lemma => kernel_rfl) (fun _ _ _ h => h) (tillH (by decide) (by decide)) trivial (Or.inl ⟨by rfl, ?hy⟩) ⟨HX.out _ D0.ext, (fun _ => D0.box.1.1), (fun _ => D0.box.1.2)⟩ ?_
        case hy => ((intro w' hSw; (try dsimp only at hSw); go_simp); (try with_reducible rfl))
        (try simp only [Act.put, List.setIfInBounds_toArray, List.set_cons_zero, List.set_cons_succ])
        refine Gated.take (i := 5) (o := { dst := some 71, op := Op.load 22 (Operand.tmp 70), type := 22, pos := "ref.go:99", after := #[{ on := 4, ground := Ground.data }], guard := none }) (v := ?_) rfl (by as_aux_lemma => kernel_rfl) (by as_aux_lemma => kernel_rfl) (by as_aux_lemma => kernel_rfl) (fun _ _ _ h => h) (till1 (by decide) (by decide) rfl (by as_aux_lemma => kernel_rfl)) (by as_aux_lemma => kernel_rfl) (Or.inl ⟨by rfl, ?hy⟩) ⟨HX.out _ D0.ext, (fun _ => D0.box.1.1), (fun _ => D0.box.1.2)⟩ ?_
        case hy => ((intro w' hSw; (try dsimp only at hSw); go_simp); (try with_reducible rfl))
        (try simp only [Act.put, List.setIfInBounds_toArray, List.set_cons_zero, List.set_cons_succ])
        refine Gated.next (rs := [2, 6]) (by as_aux_lemma => kernel_rfl) (by simp) ?_
        refine Nexts.cons (j := 2) (o := { dst := some 68, op := Op.buildSlice 22 1 #[(0, Operand.const (Value.int IntKind.i64 0))], type := 22, pos := "ref.go:99", after := #[], guard := none }) rfl (fun K hK => ?_) ?_
        · have D1 := D0.alloc (.cells #[I 0] 3)
          have nUD1 : (wr.drew.alloc (.cells #[I 0] 3)).cell? ⟨wr.heap.size, 0, none⟩ = some (I 0) := by go_simp
          go_simp
          refine hK.out _ _ ⟨HX.out _ D1.ext, (fun _ => D1.box.1.1), (fun _ => D1.box.1.2)⟩ (fun _ => ?_)
          clear hK K
          (try simp only [Act.put, List.setIfInBounds_toArray, List.set_cons_zero, List.set_cons_succ])
          refine Gated.next (rs := [3, 6]) (by as_aux_lemma => kernel_rfl) (by simp) ?_
          refine Nexts.cons (j := 3) (o := { dst := some 69, op := Op.call { callee := Callee.builtin Builtin.append, args := #[Operand.tmp 67, Operand.tmp 68], argTypes := #[22, 22] }, type := 22, pos := "ref.go:99", after := #[{ on := 1, ground := Ground.data }, { on := 2, ground := Ground.data }], guard := none }) rfl (fun K hK => ?_) ?_
          · refine step_append_lies _ (by rfl) (.tmp 67) (.tmp 68) 22 (by rfl) _ 3 i0 _ 1 8 Try.underlying22 hi0 hz0 hz1 hz9 rfl (by omega) u k (rowL (od k X) k) (by rfl) D1.ru _ 1 1 [I 0] (by rfl) (by rfl) (news1 nUD1) (by simp [Value.oneCell']) (by omega) hm8 hb8 D1.gB.2.2 _ (by rfl) ?_
            intro gU capU wU hoU hgU haU hlU
            have D2 := D1.appU hoU hgU haU
            refine hK.out _ _ ⟨HX.out _ D2.ext, (fun _ => D2.box.1.1), (fun _ => D2.box.1.2)⟩ (fun _ => ?_)
            clear hK K
            (try simp only [Act.put, List.setIfInBounds_toArray, List.set_cons_zero, List.set_cons_succ])
            refine Gated.take (i := 8) (o := { dst := some 74, op := Op.fieldAddr 24 (Operand.tmp 6) 0, type := 0, pos := "ref.go:99", after := #[{ on := 0, ground := Ground.phase }, { on := 1, ground := Ground.phase }, { on := 2, ground := Ground.phase }, { on := 3, ground := Ground.phase }, { on := 4, ground := Ground.phase }, { on := 5, ground := Ground.phase }, { on := 6, ground := Ground.textOnly Departure.lateStores }, { on := 7, ground := Ground.textOnly Departure.lateStoresUnsure }], guard := none }) (v := ?_) rfl (by as_aux_lemma => kernel_rfl) (by as_aux_lemma => kernel_rfl) (by as_aux_lemma => kernel_rfl) (fun _ _ _ h => h) (tillH (by decide) (by decide)) trivial (Or.inl ⟨by rfl, ?hy⟩) ⟨HX.out _ D2.ext, (fun _ => D2.box.1.1), (fun _ => D2.box.1.2)⟩ ?_
            case hy => ((intro w' hSw; (try dsimp only at hSw); go_simp); (try with_reducible rfl))
            (try simp only [Act.put, List.setIfInBounds_toArray, List.set_cons_zero, List.set_cons_succ])
            refine Gated.next (rs := [6]) (by as_aux_lemma => kernel_rfl) (by simp) ?_
            refine Nexts.cons (j := 6) (o := { dst := some 72, op := Op.buildSlice 22 1 #[(0, Operand.const (Value.int IntKind.i64 0))], type := 22, pos := "ref.go:99", after := #[], guard := none }) rfl (fun K hK => ?_) Nexts.nil
            have D3 := D2.alloc (.cells #[I 0] 3)
            have fVD3 : some (wU.heap.size) ≠ (Value.slice (some ⟨gU, 0, none⟩) (k + 1) capU).ownBlock := own_fresh D2.ru (by simp)
            have nVD3 : (wU.alloc (.cells #[I 0] 3)).cell? ⟨wU.heap.size, 0, none⟩ = some (I 0) := by go_simp
            go_simp
            refine hK.out _ _ ⟨HX.out _ D3.ext, (fun _ => D3.box.1.1), (fun _ => D3.box.1.2)⟩ (fun _ => ?_)
            clear hK K
            (try simp only [Act.put, List.setIfInBounds_toArray, List.set_cons_zero, List.set_cons_succ])
            refine Gated.next (rs := [7]) (by as_aux_lemma => kernel_rfl) (by simp) ?_
            refine Nexts.cons (j := 7) (o := { dst := some 73, op := Op.call { callee := Callee.builtin Builtin.append, args := #[Operand.tmp 71, Operand.tmp 72], argTypes := #[22, 22] }, type := 22, pos := "ref.go:99", after := #[{ on := 5, ground := Ground.data }, { on := 6, ground := Ground.data }, { on := 3, ground := Ground.chain }], guard := none }) rfl (fun K hK => ?_) Nexts.nil
            refine step_append_lies _ (by rfl) (.tmp 71) (.tmp 72) 22 (by rfl) _ 3 i0 _ 1 8 Try.underlying22 hi0 hz0 hz1 hz9 rfl (by omega) v k (rowL (od k Y) k) (by rfl) D3.rv _ 1 1 [I 0] (by rfl) (by rfl) (news1 nVD3) (by simp [Value.oneCell']) (by omega) hm8 hb8 D3.gB.2.2 _ (by rfl) ?_
            intro gV capV wV hoV hgV haV hlV
            have D4 := D3.appV hoV hgV haV
            refine hK.out _ _ ⟨HX.out _ D4.ext, (fun _ => D4.box.1.1), (fun _ => D4.box.1.2)⟩ (fun _ => ?_)
            clear hK K
            (try simp only [Act.put, List.setIfInBounds_toArray, List.set_cons_zero, List.set_cons_succ])
            refine Gated.next (rs := [9]) (by as_aux_lemma => kernel_rfl) (by simp) ?_
            refine Nexts.cons (j := 9) (o := { dst := none, op := Op.store 22 (Operand.tmp 74) (Operand.tmp 69), type := 0, pos := "ref.go:99", after := #[{ on := 8, ground := Ground.data }, { on := 3, ground := Ground.data }, { on := 7, ground := Ground.chain }, { on := 0, ground := Ground.phase }, { on := 1, ground := Ground.phase }, { on := 2, ground := Ground.phase }, { on := 3, ground := Ground.phase }, { on := 4, ground := Ground.phase }, { on := 5, ground := Ground.phase }, { on := 6, ground := Ground.textOnly Departure.lateStores }, { on := 7, ground := Ground.textOnly Departure.lateStoresUnsure }], guard := none }) rfl (fun K hK => ?_) Nexts.nil
            obtain ⟨⟨b0D5, b1D5⟩, bfD5⟩ := D4.box
            have D5 := D4.set0 (.slice (some ⟨gU, 0, none⟩) (k + 1) capU)
            go_simp
            refine hK.out _ _ ⟨HX.out _ D5.ext, (no_ (by as_aux_lemma => kernel_rfl)), (fun _ => D5.box.1.2)⟩ (fun _ => ?_)
            clear hK K b0D5 b1D5 bfD5
            (try simp only [Act.put, List.setIfInBounds_toArray, List.set_cons_zero, List.set_cons_succ])
            refine Gated.take (i := 10) (o := { dst := some 75, op := Op.fieldAddr 24 (Operand.tmp 6) 1, type := 0, pos := "ref.go:99", after := #[{ on := 0, ground := Ground.phase }, { on := 1, ground := Ground.phase }, { on := 2, ground := Ground.phase }, { on := 3, ground := Ground.phase }, { on := 4, ground := Ground.phase }, { on := 5, ground := Ground.phase }, { on := 6, ground := Ground.phase }, { on := 7, ground := Ground.phase }, { on := 8, ground := Ground.phase }, { on := 9, ground := Ground.phase }], guard := none }) (v := ?_) rfl (by as_aux_lemma => kernel_rfl) (by as_aux_lemma => kernel_rfl) (by as_aux_lemma => kernel_rfl) (fun _ _ _ h => h) (tillH (by decide) (by decide)) trivial (Or.inl ⟨by rfl, ?hy⟩) ⟨HX.out _ D5.ext, (no_ (by as_aux_lemma => kernel_rfl)), (fun _ => D5.box.1.2)⟩ ?_
            case hy => ((intro w' hSw; (try dsimp only at hSw); go_simp); (try with_reducible rfl))
            (try simp only [Act.put, List.setIfInBounds_toArray, List.set_cons_zero, List.set_cons_succ])
            refine Gated.next (rs := [11]) (by as_aux_lemma => kernel_rfl) (by simp) ?_
            refine Nexts.cons (j := 11) (o := { dst := none, op := Op.store 22 (Operand.tmp 75) (Operand.tmp 73), type := 0, pos := "ref.go:99", after := #[{ on := 10, ground := Ground.data }, { on := 7, ground := Ground.data }, { on := 9, ground := Ground.chain }, { on := 0, ground := Ground.phase }, { on := 1, ground := Ground.phase }, { on := 2, ground := Ground.phase }, { on := 3, ground := Ground.phase }, { on := 4, ground := Ground.phase }, { on := 5, ground := Ground.phase }, { on := 6, ground := Ground.phase }, { on := 7, ground := Ground.phase }, { on := 8, ground := Ground.phase }, { on := 9, ground := Ground.phase }], guard := none }) rfl (fun K hK => ?_) Nexts.nil
            obtain ⟨⟨b0D6, b1D6⟩, bfD6⟩ := D5.box
            have D6 := D5.set1 (.slice (some ⟨gV, 0, none⟩) (k + 1) capV)
            go_simp
            refine hK.out _ _ ⟨HX.out _ D6.ext, (no_ (by as_aux_lemma => kernel_rfl)), (no_ (by as_aux_lemma => kernel_rfl))⟩ (fun _ => ?_)
            clear hK K b0D6 b1D6 bfD6
            (try simp only [Act.put, List.setIfInBounds_toArray, List.set_cons_zero, List.set_cons_succ])
            refine Gated.done (by as_aux_lemma => kernel_rfl) ?_
            (try refine NoPanic.normal ?_)
            have DE := D6
            rw [← rowL_succ' HZX.out, ← rowL_succ' HZY.out] at DE
            go_wp2_with fail
            go_meet
            exact ⟨_, _, DE⟩
          refine Nexts.cons (j := 6) (o := { dst := some 72, op := Op.buildSlice 22 1 #[(0, Operand.const (Value.int IntKind.i64 0))], type := 22, pos := "ref.go:99", after := #[], guard := none }) rfl (fun K hK => ?_) ?_
          · have D7 := D1.alloc (.cells #[I 0] 3)
            have fVD7 : some (wr.heap.size + 1) ≠ u.ownBlock := own_fresh D1.ru (by simp)
            have nUD7 : ((wr.drew.alloc (.cells #[I 0] 3)).alloc (.cells #[I 0] 3)).cell? ⟨wr.heap.size, 0, none⟩ = some (I 0) := ((Ext.alloc (wr.drew.alloc (.cells #[I 0] 3)) _).old.1 _ 0 (by simp)).trans nUD1
            have nVD7 : ((wr.drew.alloc (.cells #[I 0] 3)).alloc (.cells #[I 0] 3)).cell? ⟨wr.heap.size + 1, 0, none⟩ = some (I 0) := by go_simp
            go_simp
            refine hK.out _ _ ⟨HX.out _ D7.ext, (fun _ => D7.box.1.1), (fun _ => D7.box.1.2)⟩ (fun _ => ?_)
            clear hK K
            (try simp only [Act.put, List.setIfInBounds_toArray, List.set_cons_zero, List.set_cons_succ])
            refine Gated.next (rs := [3]) (by as_aux_lemma => kernel_rfl) (by simp) ?_
            refine Nexts.cons (j := 3) (o := { dst := some 69, op := Op.call { callee := Callee.builtin Builtin.append, args := #[Operand.tmp 67, Operand.tmp 68], argTypes := #[22, 22] }, type := 22, pos := "ref.go:99", after := #[{ on := 1, ground := Ground.data }, { on := 2, ground := Ground.data }], guard := none }) rfl (fun K hK => ?_) Nexts.nil
            refine step_append_lies _ (by rfl) (.tmp 67) (.tmp 68) 22 (by rfl) _ 3 i0 _ 1 8 Try.underlying22 hi0 hz0 hz1 hz9 rfl (by omega) u k (rowL (od k X) k) (by rfl) D7.ru _ 1 1 [I 0] (by rfl) (by rfl) (news1 nUD7) (by simp [Value.oneCell']) (by omega) hm8 hb8 D7.gB.2.2 _ (by rfl) ?_
            intro gU capU wU hoU hgU haU hlU
            have D8 := D7.appU hoU hgU haU
            have nVD8 := hgU.cell nVD7 fVD7
            refine hK.out _ _ ⟨HX.out _ D8.ext, (fun _ => D8.box.1.1), (fun _ => D8.box.1.2)⟩ (fun _ => ?_)
            clear hK K
            (try simp only [Act.put, List.setIfInBounds_toArray, List.set_cons_zero, List.set_cons_succ])
            refine Gated.take (i := 8) (o := { dst := some 74, op := Op.fieldAddr 24 (Operand.tmp 6) 0, type := 0, pos := "ref.go:99", after := #[{ on := 0, ground := Ground.phase }, { on := 1, ground := Ground.phase }, { on := 2, ground := Ground.phase }, { on := 3, ground := Ground.phase }, { on := 4, ground := Ground.phase }, { on := 5, ground := Ground.phase }, { on := 6, ground := Ground.textOnly Departure.lateStores }, { on := 7, ground := Ground.textOnly Departure.lateStoresUnsure }], guard := none }) (v := ?_) rfl (by as_aux_lemma => kernel_rfl) (by as_aux_lemma => kernel_rfl) (by as_aux_lemma => kernel_rfl) (fun _ _ _ h => h) (tillH (by decide) (by decide)) trivial (Or.inl ⟨by rfl, ?hy⟩) ⟨HX.out _ D8.ext, (fun _ => D8.box.1.1), (fun _ => D8.box.1.2)⟩ ?_
            case hy => ((intro w' hSw; (try dsimp only at hSw); go_simp); (try with_reducible rfl))
            (try simp only [Act.put, List.setIfInBounds_toArray, List.set_cons_zero, List.set_cons_succ])
            refine Gated.next (rs := [7]) (by as_aux_lemma => kernel_rfl) (by simp) ?_
            refine Nexts.cons (j := 7) (o := { dst := some 73, op := Op.call { callee := Callee.builtin Builtin.append, args := #[Operand.tmp 71, Operand.tmp 72], argTypes := #[22, 22] }, type := 22, pos := "ref.go:99", after := #[{ on := 5, ground := Ground.data }, { on := 6, ground := Ground.data }, { on := 3, ground := Ground.chain }], guard := none }) rfl (fun K hK => ?_) Nexts.nil
            refine step_append_lies _ (by rfl) (.tmp 71) (.tmp 72) 22 (by rfl) _ 3 i0 _ 1 8 Try.underlying22 hi0 hz0 hz1 hz9 rfl (by omega) v k (rowL (od k Y) k) (by rfl) D8.rv _ 1 1 [I 0] (by rfl) (by rfl) (news1 nVD8) (by simp [Value.oneCell']) (by omega) hm8 hb8 D8.gB.2.2 _ (by rfl) ?_
            intro gV capV wV hoV hgV haV hlV
            have D9 := D8.appV hoV hgV haV
            refine hK.out _ _ ⟨HX.out _ D9.ext, (fun _ => D9.box.1.1), (fun _ => D9.box.1.2)⟩ (fun _ => ?_)
            clear hK K
            (try simp only [Act.put, List.setIfInBounds_toArray, List.set_cons_zero, List.set_cons_succ])
            refine Gated.next (rs := [9]) (by as_aux_lemma => kernel_rfl) (by simp) ?_
            refine Nexts.cons (j := 9) (o := { dst := none, op := Op.store 22 (Operand.tmp 74) (Operand.tmp 69), type := 0, pos := "ref.go:99", after := #[{ on := 8, ground := Ground.data }, { on := 3, ground := Ground.data }, { on := 7, ground := Ground.chain }, { on := 0, ground := Ground.phase }, { on := 1, ground := Ground.phase }, { on := 2, ground := Ground.phase }, { on := 3, ground := Ground.phase }, { on := 4, ground := Ground.phase }, { on := 5, ground := Ground.phase }, { on := 6, ground := Ground.textOnly Departure.lateStores }, { on := 7, ground := Ground.textOnly Departure.lateStoresUnsure }], guard := none }) rfl (fun K hK => ?_) Nexts.nil
            obtain ⟨⟨b0D10, b1D10⟩, bfD10⟩ := D9.box
            have D10 := D9.set0 (.slice (some ⟨gU, 0, none⟩) (k + 1) capU)
            go_simp
            refine hK.out _ _ ⟨HX.out _ D10.ext, (no_ (by as_aux_lemma => kernel_rfl)), (fun _ => D10.box.1.2)⟩ (fun _ => ?_)
            clear hK K b0D10 b1D10 bfD10
            (try simp only [Act.put, List.setIfInBounds_toArray, List.set_cons_zero, List.set_cons_succ])
            refine Gated.take (i := 10) (o := { dst := some 75, op := Op.fieldAddr 24 (Operand.tmp 6) 1, type := 0, pos := "ref.go:99", after := #[{ on := 0, ground := Ground.phase }, { on := 1, ground := Ground.phase }, { on := 2, ground := Ground.phase }, { on := 3, ground := Ground.phase }, { on := 4, ground := Ground.phase }, { on := 5, ground := Ground.phase }, { on := 6, ground := Ground.phase }, { on := 7, ground := Ground.phase }, { on := 8, ground := Ground.phase }, { on := 9, ground := Ground.phase }], guard := none }) (v := ?_) rfl (by as_aux_lemma => kernel_rfl) (by as_aux_lemma => kernel_rfl) (by as_aux_lemma => kernel_rfl) (fun _ _ _ h => h) (tillH (by decide) (by decide)) trivial (Or.inl ⟨by rfl, ?hy⟩) ⟨HX.out _ D10.ext, (no_ (by as_aux_lemma => kernel_rfl)), (fun _ => D10.box.1.2)⟩ ?_
            case hy => ((intro w' hSw; (try dsimp only at hSw); go_simp); (try with_reducible rfl))
            (try simp only [Act.put, List.setIfInBounds_toArray, List.set_cons_zero, List.set_cons_succ])
            refine Gated.next (rs := [11]) (by as_aux_lemma => kernel_rfl) (by simp) ?_
            refine Nexts.cons (j := 11) (o := { dst := none, op := Op.store 22 (Operand.tmp 75) (Operand.tmp 73), type := 0, pos := "ref.go:99", after := #[{ on := 10, ground := Ground.data }, { on := 7, ground := Ground.data }, { on := 9, ground := Ground.chain }, { on := 0, ground := Ground.phase }, { on := 1, ground := Ground.phase }, { on := 2, ground := Ground.phase }, { on := 3, ground := Ground.phase }, { on := 4, ground := Ground.phase }, { on := 5, ground := Ground.phase }, { on := 6, ground := Ground.phase }, { on := 7, ground := Ground.phase }, { on := 8, ground := Ground.phase }, { on := 9, ground := Ground.phase }], guard := none }) rfl (fun K hK => ?_) Nexts.nil
            obtain ⟨⟨b0D11, b1D11⟩, bfD11⟩ := D10.box
            have D11 := D10.set1 (.slice (some ⟨gV, 0, none⟩) (k + 1) capV)
            go_simp
            refine hK.out _ _ ⟨HX.out _ D11.ext, (no_ (by as_aux_lemma => kernel_rfl)), (no_ (by as_aux_lemma => kernel_rfl))⟩ (fun _ => ?_)
            clear hK K b0D11 b1D11 bfD11
            (try simp only [Act.put, List.setIfInBounds_toArray, List.set_cons_zero, List.set_cons_succ])
            refine Gated.done (by as_aux_lemma => kernel_rfl) ?_
            (try refine NoPanic.normal ?_)
            have DE := D11
            rw [← rowL_succ' HZX.out, ← rowL_succ' HZY.out] at DE
            go_wp2_with fail
            go_meet
            exact ⟨_, _, DE⟩
          exact Nexts.nil
        refine Nexts.cons (j := 6) (o := { dst := some 72, op := Op.buildSlice 22 1 #[(0, Operand.const (Value.int IntKind.i64 0))], type := 22, pos := "ref.go:99", after := #[], guard := none }) rfl (fun K hK => ?_) ?_
        · have D12 := D0.alloc (.cells #[I 0] 3)
          have fVD12 : some (wr.heap.size) ≠ u.ownBlock := own_fresh D0.ru (by simp)
          have nVD12 : (wr.drew.alloc (.cells #[I 0] 3)).cell? ⟨wr.heap.size, 0, none⟩ = some (I 0) := by go_simp
          go_simp
          refine hK.out _ _ ⟨HX.out _ D12.ext, (fun _ => D12.box.1.1), (fun _ => D12.box.1.2)⟩ (fun _ => ?_)
          clear hK K
          (try simp only [Act.put, List.setIfInBounds_toArray, List.set_cons_zero, List.set_cons_succ])
          refine Gated.next (rs := [2]) (by as_aux_lemma => kernel_rfl) (by simp) ?_
          refine Nexts.cons (j := 2) (o := { dst := some 68, op := Op.buildSlice 22 1 #[(0, Operand.const (Value.int IntKind.i64 0))], type := 22, pos := "ref.go:99", after := #[], guard := none }) rfl (fun K hK => ?_) Nexts.nil
          have D13 := D12.alloc (.cells #[I 0] 3)
          have nVD13 : ((wr.drew.alloc (.cells #[I 0] 3)).alloc (.cells #[I 0] 3)).cell? ⟨wr.heap.size, 0, none⟩ = some (I 0) := ((Ext.alloc (wr.drew.alloc (.cells #[I 0] 3)) _).old.1 _ 0 (by simp)).trans nVD12
          have nUD13 : ((wr.drew.alloc (.cells #[I 0] 3)).alloc (.cells #[I 0] 3)).cell? ⟨wr.heap.size + 1, 0, none⟩ = some (I 0) := by go_simp
          go_simp
          refine hK.out _ _ ⟨HX.out _ D13.ext, (fun _ => D13.box.1.1), (fun _ => D13.box.1.2)⟩ (fun _ => ?_)
          clear hK K
          (try simp only [Act.put, List.setIfInBounds_toArray, List.set_cons_zero, List.set_cons_succ])
          refine Gated.next (rs := [3]) (by as_aux_lemma => kernel_rfl) (by simp) ?_
          refine Nexts.cons (j := 3) (o := { dst := some 69, op := Op.call { callee := Callee.builtin Builtin.append, args := #[Operand.tmp 67, Operand.tmp 68], argTypes := #[22, 22] }, type := 22, pos := "ref.go:99", after := #[{ on := 1, ground := Ground.data }, { on := 2, ground := Ground.data }], guard := none }) rfl (fun K hK => ?_) Nexts.nil
          refine step_append_lies _ (by rfl) (.tmp 67) (.tmp 68) 22 (by rfl) _ 3 i0 _ 1 8 Try.underlying22 hi0 hz0 hz1 hz9 rfl (by omega) u k (rowL (od k X) k) (by rfl) D13.ru _ 1 1 [I 0] (by rfl) (by rfl) (news1 nUD13) (by simp [Value.oneCell']) (by omega) hm8 hb8 D13.gB.2.2 _ (by rfl) ?_
          intro gU capU wU hoU hgU haU hlU
          have D14 := D13.appU hoU hgU haU
          have nVD14 := hgU.cell nVD13 fVD12
          refine hK.out _ _ ⟨HX.out _ D14.ext, (fun _ => D14.box.1.1), (fun _ => D14.box.1.2)⟩ (fun _ => ?_)
          clear hK K
          (try simp only [Act.put, List.setIfInBounds_toArray, List.set_cons_zero, List.set_cons_succ])
          refine Gated.take (i := 8) (o := { dst := some 74, op := Op.fieldAddr 24 (Operand.tmp 6) 0, type := 0, pos := "ref.go:99", after := #[{ on := 0, ground := Ground.phase }, { on := 1, ground := Ground.phase }, { on := 2, ground := Ground.phase }, { on := 3, ground := Ground.phase }, { on := 4, ground := Ground.phase }, { on := 5, ground := Ground.phase }, { on := 6, ground := Ground.textOnly Departure.lateStores }, { on := 7, ground := Ground.textOnly Departure.lateStoresUnsure }], guard := none }) (v := ?_) rfl (by as_aux_lemma => kernel_rfl) (by as_aux_lemma => kernel_rfl) (by as_aux_lemma => kernel_rfl) (fun _ _ _ h => h) (tillH (by decide) (by decide)) trivial (Or.inl ⟨by rfl, ?hy⟩) ⟨HX.out _ D14.ext, (fun _ => D14.box.1.1), (fun _ => D14.box.1.2)⟩ ?_
          case hy => ((intro w' hSw; (try dsimp only at hSw); go_simp); (try with_reducible rfl))
          (try simp only [Act.put, List.setIfInBounds_toArray, List.set_cons_zero, List.set_cons_succ])
          refine Gated.next (rs := [7]) (by as_aux_lemma => kernel_rfl) (by simp) ?_
          refine Nexts.cons (j := 7) (o := { dst := some 73, op := Op.call { callee := Callee.builtin Builtin.append, args := #[Operand.tmp 71, Operand.tmp 72], argTypes := #[22, 22] }, type := 22, pos := "ref.go:99", after := #[{ on := 5, ground := Ground.data }, { on := 6, ground := Ground.data }, { on := 3, ground := Ground.chain }], guard := none }) rfl (fun K hK => ?_) Nexts.nil
          refine step_append_lies _ (by rfl) (.tmp 71) (.tmp 72) 22 (by rfl) _ 3 i0 _ 1 8 Try.underlying22 hi0 hz0 hz1 hz9 rfl (by omega) v k (rowL (od k Y) k) (by rfl) D14.rv _ 1 1 [I 0] (by rfl) (by rfl) (news1 nVD14) (by simp [Value.oneCell']) (by omega) hm8 hb8 D14.gB.2.2 _ (by rfl) ?_
          intro gV capV wV hoV hgV haV hlV
          have D15 := D14.appV hoV hgV haV
          refine hK.out _ _ ⟨HX.out _ D15.ext, (fun _ => D15.box.1.1), (fun _ => D15.box.1.2)⟩ (fun _ => ?_)
          clear hK K
          (try simp only [Act.put, List.setIfInBounds_toArray, List.set_cons_zero, List.set_cons_succ])
          refine Gated.next (rs := [9]) (by as_aux_lemma => kernel_rfl) (by simp) ?_
          refine Nexts.cons (j := 9) (o := { dst := none, op := Op.store 22 (Operand.tmp 74) (Operand.tmp 69), type := 0, pos := "ref.go:99", after := #[{ on := 8, ground := Ground.data }, { on := 3, ground := Ground.data }, { on := 7, ground := Ground.chain }, { on := 0, ground := Ground.phase }, { on := 1, ground := Ground.phase }, { on := 2, ground := Ground.phase }, { on := 3, ground := Ground.phase }, { on := 4, ground := Ground.phase }, { on := 5, ground := Ground.phase }, { on := 6, ground := Ground.textOnly Departure.lateStores }, { on := 7, ground := Ground.textOnly Departure.lateStoresUnsure }], guard := none }) rfl (fun K hK => ?_) Nexts.nil
          obtain ⟨⟨b0D16, b1D16⟩, bfD16⟩ := D15.box
          have D16 := D15.set0 (.slice (some ⟨gU, 0, none⟩) (k + 1) capU)
          go_simp
          refine hK.out _ _ ⟨HX.out _ D16.ext, (no_ (by as_aux_lemma => kernel_rfl)), (fun _ => D16.box.1.2)⟩ (fun _ => ?_)
          clear hK K b0D16 b1D16 bfD16
          (try simp only [Act.put, List.setIfInBounds_toArray, List.set_cons_zero, List.set_cons_succ])
          refine Gated.take (i := 10) (o := { dst := some 75, op := Op.fieldAddr 24 (Operand.tmp 6) 1, type := 0, pos := "ref.go:99", after := #[{ on := 0, ground := Ground.phase }, { on := 1, ground := Ground.phase }, { on := 2, ground := Ground.phase }, { on := 3, ground := Ground.phase }, { on := 4, ground := Ground.phase }, { on := 5, ground := Ground.phase }, { on := 6, ground := Ground.phase }, { on := 7, ground := Ground.phase }, { on := 8, ground := Ground.phase }, { on := 9, ground := Ground.phase }], guard := none }) (v := ?_) rfl (by as_aux_lemma => kernel_rfl) (by as_aux_lemma => kernel_rfl) (by as_aux_lemma => kernel_rfl) (fun _ _ _ h => h) (tillH (by decide) (by decide)) trivial (Or.inl ⟨by rfl, ?hy⟩) ⟨HX.out _ D16.ext, (no_ (by as_aux_lemma => kernel_rfl)), (fun _ => D16.box.1.2)⟩ ?_
          case hy => ((intro w' hSw; (try dsimp only at hSw); go_simp); (try with_reducible rfl))
          (try simp only [Act.put, List.setIfInBounds_toArray, List.set_cons_zero, List.set_cons_succ])
          refine Gated.next (rs := [11]) (by as_aux_lemma => kernel_rfl) (by simp) ?_
          refine Nexts.cons (j := 11) (o := { dst := none, op := Op.store 22 (Operand.tmp 75) (Operand.tmp 73), type := 0, pos := "ref.go:99", after := #[{ on := 10, ground := Ground.data }, { on := 7, ground := Ground.data }, { on := 9, ground := Ground.chain }, { on := 0, ground := Ground.phase }, { on := 1, ground := Ground.phase }, { on := 2, ground := Ground.phase }, { on := 3, ground := Ground.phase }, { on := 4, ground := Ground.phase }, { on := 5, ground := Ground.phase }, { on := 6, ground := Ground.phase }, { on := 7, ground := Ground.phase }, { on := 8, ground := Ground.phase }, { on := 9, ground := Ground.phase }], guard := none }) rfl (fun K hK => ?_) Nexts.nil
          obtain ⟨⟨b0D17, b1D17⟩, bfD17⟩ := D16.box
          have D17 := D16.set1 (.slice (some ⟨gV, 0, none⟩) (k + 1) capV)
          go_simp
          refine hK.out _ _ ⟨HX.out _ D17.ext, (no_ (by as_aux_lemma => kernel_rfl)), (no_ (by as_aux_lemma => kernel_rfl))⟩ (fun _ => ?_)
          clear hK K b0D17 b1D17 bfD17
          (try simp only [Act.put, List.setIfInBounds_toArray, List.set_cons_zero, List.set_cons_succ])
          refine Gated.done (by as_aux_lemma => kernel_rfl) ?_
          (try refine NoPanic.normal ?_)
          have DE := D17
          rw [← rowL_succ' HZX.out, ← rowL_succ' HZY.out] at DE
          go_wp2_with fail
          go_meet
          exact ⟨_, _, DE⟩
        exact Nexts.nil
      case rest =>
        obtain ⟨u2, v2, D2⟩ := hcut
        have HD := Lib.hid D2
        clear D D2
        go_wp2_with fail
        go_loopw [8] (fun s wr => ∃ (j : Nat) (u v : Value), j ≤ k ∧ s = I j ∧ Two2 (w.alloc (.cells #[.slice none 0 0, .slice none 0 0] 24)) (w.heap.size + 1) (w.heap.size + 1 + 1) 3 wr u v u v (k + 1 + j) (k + 1 + j) (rowL (od k X) (k + 1 + j)) (rowL (od k Y) (k + 1 + j))) (fun s _ => k - (intOf s).toNat)
        case atStart => exact ⟨0, u2, v2, Nat.zero_le _, rfl, HD.out⟩
        case round =>
          obtain ⟨j, u, v, hj, rfl, D⟩ := hrel
          obtain ⟨⟨c0, c1⟩, cf⟩ := D.box
          by_cases hlt : j < k
          · obtain ⟨xj, yj⟩ := R2.out _ D.ext j hlt
            have HZX : Hid (od k X (k + 1 + j) = X j) := by show od k X (k + 1 + j) = X j; unfold od; rw [if_neg (by omega), if_neg (by omega), show k + 1 + j - k - 1 = j by omega]
            have HZY : Hid (od k Y (k + 1 + j) = Y j) := by show od k Y (k + 1 + j) = Y j; unfold od; rw [if_neg (by omega), if_neg (by omega), show k + 1 + j - k - 1 = j by omega]
            have HX : Hid (∀ w', Ext (w.alloc (.cells #[.slice none 0 0, .slice none 0 0] 24)) w' → w'.cell? ⟨ba, oa + j, none⟩ = some (I (X j)) ∧ w'.cell? ⟨bb, ob + j, none⟩ = some (I (Y j))) := fun w' x => R2.out w' x j hlt
            have j2 : (j : Int) < (k : Int) := by omega
            clear c0 c1 cf
            go_wp2_with fail
            have hm8 : k + 1 + j + 1 ≤ maxLen := by unfold maxLen; omega
            have hb8 : (k + 1 + j + 1) * 8 ≤ 140737488355328 := by omega
            obtain ⟨i0, hi0, hz0, hz1, hz9⟩ := info_parts infoInt
            clear xj yj
            refine wp_region_noPanic ?_
            refine Gated.begin (S := SG (fun w' => w'.cell? ⟨ba, oa + j, none⟩ = some (I (X j)) ∧ w'.cell? ⟨bb, ob + j, none⟩ = some (I (Y j))) 17 19 ⟨w.heap.size + 1, 0, none⟩ ⟨w.heap.size + 1, 1, none⟩ u v) (by rfl) ?_
            have D0 := D.drew
            (try simp only [Act.put, List.setIfInBounds_toArray, List.set_cons_zero, List.set_cons_succ])
            refine Gated.take (i := 0) (o := { dst := some 82, op := Op.fieldAddr 24 (Operand.tmp 6) 0, type := 0, pos := "ref.go:101", after := #[], guard := none }) (v := ?_) rfl (by as_aux_lemma => kernel_rfl) (by as_aux_lemma => kernel_rfl) (by as_aux_lemma => kernel_rfl) (fun _ _ _ h => h) (tillH (by decide) (by decide)) trivial (Or.inl ⟨by rfl, ?hy⟩) ⟨HX.out _ D0.ext, (fun _ => D0.box.1.1), (fun _ => D0.box.1.2)⟩ ?_
            case hy => ((intro w' hSw; (try dsimp only at hSw); go_simp); (try with_reducible rfl))
            (try simp only [Act.put, List.setIfInBounds_toArray, List.set_cons_zero, List.set_cons_succ])
            refine Gated.take (i := 1) (o := { dst := some 83, op := Op.load 22 (Operand.tmp 82), type := 22, pos := "ref.go:101", after := #[{ on := 0, ground := Ground.data }], guard := none }) (v := ?_) rfl (by as_aux_lemma => kernel_rfl) (by as_aux_lemma => kernel_rfl) (by as_aux_lemma => kernel_rfl) (fun _ _ _ h => h) (till0 (by decide) (by decide) rfl (by as_aux_lemma => kernel_rfl)) (by as_aux_lemma => kernel_rfl) (Or.inl ⟨by rfl, ?hy⟩) ⟨HX.out _ D0.ext, (fun _ => D0.box.1.1), (fun _ => D0.box.1.2)⟩ ?_
            case hy => ((intro w' hSw; (try dsimp only at hSw); go_simp); (try with_reducible rfl))
            (try simp only [Act.put, List.setIfInBounds_toArray, List.set_cons_zero, List.set_cons_succ])
            refine Gated.take (i := 2) (o := { dst := some 84, op := Op.move (Operand.tmp 0), type := 22, pos := "ref.go:101", after := #[], guard := none }) (v := ?_) rfl (by as_aux_lemma => kernel_rfl) (by as_aux_lemma => kernel_rfl) (by as_aux_lemma => kernel_rfl) (fun _ _ _ h => h) (tillH (by decide) (by decide)) trivial (Or.inl ⟨by rfl, ?hy⟩) ⟨HX.out _ D0.ext, (fun _ => D0.box.1.1), (fun _ => D0.box.1.2)⟩ ?_
            case hy => ((intro w' hSw; (try dsimp only at hSw); go_simp); (try with_reducible rfl))
            (try simp only [Act.put, List.setIfInBounds_toArray, List.set_cons_zero, List.set_cons_succ])
            refine Gated.take (i := 3) (o := { dst := some 85, op := Op.move (Operand.tmp 8), type := 3, pos := "ref.go:101", after := #[], guard := none }) (v := ?_) rfl (by as_aux_lemma => kernel_rfl) (by as_aux_lemma => kernel_rfl) (by as_aux_lemma => kernel_rfl) (fun _ _ _ h => h) (tillH (by decide) (by decide)) trivial (Or.inl ⟨by rfl, ?hy⟩) ⟨HX.out _ D0.ext, (fun _ => D0.box.1.1), (fun _ => D0.box.1.2)⟩ ?_
            case hy => ((intro w' hSw; (try dsimp only at hSw); go_simp); (try with_reducible rfl))
            (try simp only [Act.put, List.setIfInBounds_toArray, List.set_cons_zero, List.set_cons_succ])
            refine Gated.take (i := 4) (o := { dst := some 86, op := Op.indexAddr 22 (Operand.tmp 84) (Operand.tmp 85), type := 0, pos := "ref.go:101", after := #[{ on := 2, ground := Ground.data }, { on := 3, ground := Ground.data }], guard := none }) (v := ?_) rfl (by as_aux_lemma => kernel_rfl) (by as_aux_lemma => kernel_rfl) (by as_aux_lemma => kernel_rfl) (fun _ _ _ h => h) (tillH (by decide) (by decide)) trivial (Or.inl ⟨by rfl, ?hy⟩) ⟨HX.out _ D0.ext, (fun _ => D0.box.1.1), (fun _ => D0.box.1.2)⟩ ?_
            case hy => ((intro w' hSw; (try dsimp only at hSw); go_simp); (try with_reducible rfl))
            (try simp only [Act.put, List.setIfInBounds_toArray, List.set_cons_zero, List.set_cons_succ])
            refine Gated.take (i := 5) (o := { dst := some 87, op := Op.load 3 (Operand.tmp 86), type := 3, pos := "ref.go:101", after := #[{ on := 4, ground := Ground.data }], guard := none }) (v := ?_) rfl (by as_aux_lemma => kernel_rfl) (by as_aux_lemma => kernel_rfl) (by as_aux_lemma => kernel_rfl) (fun _ _ _ h => h) (tillH (by decide) (by decide)) trivial (Or.inl ⟨by rfl, ?hy⟩) ⟨HX.out _ D0.ext, (fun _ => D0.box.1.1), (fun _ => D0.box.1.2)⟩ ?_
            case hy => ((intro w' hSw; (try dsimp only at hSw); go_simp); (try with_reducible rfl))
            (try simp only [Act.put, List.setIfInBounds_toArray, List.set_cons_zero, List.set_cons_succ])
            refine Gated.take (i := 8) (o := { dst := some 90, op := Op.fieldAddr 24 (Operand.tmp 6) 1, type := 0, pos := "ref.go:101", after := #[], guard := none }) (v := ?_) rfl (by as_aux_lemma => kernel_rfl) (by as_aux_lemma => kernel_rfl) (by as_aux_lemma => kernel_rfl) (fun _ _ _ h => h) (tillH (by decide) (by decide)) trivial (Or.inl ⟨by rfl, ?hy⟩) ⟨HX.out _ D0.ext, (fun _ => D0.box.1.1), (fun _ => D0.box.1.2)⟩ ?_
            case hy => ((intro w' hSw; (try dsimp only at hSw); go_simp); (try with_reducible rfl))
            (try simp only [Act.put, List.setIfInBounds_toArray, List.set_cons_zero, List.set_cons_succ])
            refine Gated.take (i := 9) (o := { dst := some 91, op := Op.load 22 (Operand.tmp 90), type := 22, pos := "ref.go:101", after := #[{ on := 8, ground := Ground.data }], guard := none }) (v := ?_) rfl (by as_aux_lemma => kernel_rfl) (by as_aux_lemma => kernel_rfl) (by as_aux_lemma => kernel_rfl) (fun _ _ _ h => h) (till1 (by decide) (by decide) rfl (by as_aux_lemma => kernel_rfl)) (by as_aux_lemma => kernel_rfl) (Or.inl ⟨by rfl, ?hy⟩) ⟨HX.out _ D0.ext, (fun _ => D0.box.1.1), (fun _ => D0.box.1.2)⟩ ?_
            case hy => ((intro w' hSw; (try dsimp only at hSw); go_simp); (try with_reducible rfl))
            (try simp only [Act.put, List.setIfInBounds_toArray, List.set_cons_zero, List.set_cons_succ])
            refine Gated.take (i := 10) (o := { dst := some 92, op := Op.move (Operand.tmp 1), type := 22, pos := "ref.go:101", after := #[], guard := none }) (v := ?_) rfl (by as_aux_lemma => kernel_rfl) (by as_aux_lemma => kernel_rfl) (by as_aux_lemma => kernel_rfl) (fun _ _ _ h => h) (tillH (by decide) (by decide)) trivial (Or.inl ⟨by rfl, ?hy⟩) ⟨HX.out _ D0.ext, (fun _ => D0.box.1.1), (fun _ => D0.box.1.2)⟩ ?_
            case hy => ((intro w' hSw; (try dsimp only at hSw); go_simp); (try with_reducible rfl))
            (try simp only [Act.put, List.setIfInBounds_toArray, List.set_cons_zero, List.set_cons_succ])
            refine Gated.take (i := 11) (o := { dst := some 93, op := Op.move (Operand.tmp 8), type := 3, pos := "ref.go:101", after := #[], guard := none }) (v := ?_) rfl (by as_aux_lemma => kernel_rfl) (by as_aux_lemma => kernel_rfl) (by as_aux_lemma => kernel_rfl) (fun _ _ _ h => h) (tillH (by decide) (by decide)) trivial (Or.inl ⟨by rfl, ?hy⟩) ⟨HX.out _ D0.ext, (fun _ => D0.box.1.1), (fun _ => D0.box.1.2)⟩ ?_
            case hy => ((intro w' hSw; (try dsimp only at hSw); go_simp); (try with_reducible rfl))
            (try simp only [Act.put, List.setIfInBounds_toArray, List.set_cons_zero, List.set_cons_succ])
            refine Gated.take (i := 12) (o := { dst := some 94, op := Op.indexAddr 22 (Operand.tmp 92) (Operand.tmp 93), type := 0, pos := "ref.go:101", after := #[{ on := 10, ground := Ground.data }, { on := 11, ground := Ground.data }], guard := none }) (v := ?_) rfl (by as_aux_lemma => kernel_rfl) (by as_aux_lemma => kernel_rfl) (by as_aux_lemma => kernel_rfl) (fun _ _ _ h => h) (tillH (by decide) (by decide)) trivial (Or.inl ⟨by rfl, ?hy⟩) ⟨HX.out _ D0.ext, (fun _ => D0.box.1.1), (fun _ => D0.box.1.2)⟩ ?_
            case hy => ((intro w' hSw; (try dsimp only at hSw); go_simp); (try with_reducible rfl))
            (try simp only [Act.put, List.setIfInBounds_toArray, List.set_cons_zero, List.set_cons_succ])
            refine Gated.take (i := 13) (o := { dst := some 95, op := Op.load 3 (Operand.tmp 94), type := 3, pos := "ref.go:101", after := #[{ on := 12, ground := Ground.data }], guard := none }) (v := ?_) rfl (by as_aux_lemma => kernel_rfl) (by as_aux_lemma => kernel_rfl) (by as_aux_lemma => kernel_rfl) (fun _ _ _ h => h) (tillH (by decide) (by decide)) trivial (Or.inl ⟨by rfl, ?hy⟩) ⟨HX.out _ D0.ext, (fun _ => D0.box.1.1), (fun _ => D0.box.1.2)⟩ ?_
            case hy => ((intro w' hSw; (try dsimp only at hSw); go_simp); (try with_reducible rfl))
            (try simp only [Act.put, List.setIfInBounds_toArray, List.set_cons_zero, List.set_cons_succ])
            refine Gated.next (rs := [6, 14]) (by as_aux_lemma => kernel_rfl) (by simp) ?_
            refine Nexts.cons (j := 6) (o := { dst := some 88, op := Op.buildSlice 22 1 #[(0, Operand.tmp 87)], type := 22, pos := "ref.go:101", after := #[{ on := 5, ground := Ground.data }], guard := none }) rfl (fun K hK => ?_) ?_
            · have D1 := D0.alloc (.cells #[I (X j)] 3)
              have nUD1 : (wr.drew.alloc (.cells #[I (X j)] 3)).cell? ⟨wr.heap.size, 0, none⟩ = some (I (X j)) := by go_simp
              go_simp
              refine hK.out _ _ ⟨HX.out _ D1.ext, (fun _ => D1.box.1.1), (fun _ => D1.box.1.2)⟩ (fun _ => ?_)
              clear hK K
              (try simp only [Act.put, List.setIfInBounds_toArray, List.set_cons_zero, List.set_cons_succ])
              refine Gated.next (rs := [7, 14]) (by as_aux_lemma => kernel_rfl) (by simp) ?_
              refine Nexts.cons (j := 7) (o := { dst := some 89, op := Op.call { callee := Callee.builtin Builtin.append, args := #[Operand.tmp 83, Operand.tmp 88], argTypes := #[22, 22] }, type := 22, pos := "ref.go:101", after := #[{ on := 1, ground := Ground.data }, { on := 6, ground := Ground.data }], guard := none }) rfl (fun K hK => ?_) ?_
              · refine step_append_lies _ (by rfl) (.tmp 83) (.tmp 88) 22 (by rfl) _ 3 i0 _ 1 8 Try.underlying22 hi0 hz0 hz1 hz9 rfl (by omega) u (k + 1 + j) (rowL (od k X) (k + 1 + j)) (by rfl) D1.ru _ 1 1 [I (X j)] (by rfl) (by rfl) (news1 nUD1) (by simp [Value.oneCell']) (by omega) hm8 hb8 D1.gB.2.2 _ (by rfl) ?_
                intro gU capU wU hoU hgU haU hlU
                have D2 := D1.appU hoU hgU haU
                refine hK.out _ _ ⟨HX.out _ D2.ext, (fun _ => D2.box.1.1), (fun _ => D2.box.1.2)⟩ (fun _ => ?_)
                clear hK K
                (try simp only [Act.put, List.setIfInBounds_toArray, List.set_cons_zero, List.set_cons_succ])
                refine Gated.take (i := 16) (o := { dst := some 98, op := Op.fieldAddr 24 (Operand.tmp 6) 0, type := 0, pos := "ref.go:101", after := #[{ on := 0, ground := Ground.phase }, { on := 1, ground := Ground.phase }, { on := 2, ground := Ground.phase }, { on := 3, ground := Ground.phase }, { on := 4, ground := Ground.phase }, { on := 5, ground := Ground.phase }, { on := 6, ground := Ground.phase }, { on := 7, ground := Ground.phase }, { on := 8, ground := Ground.phase }, { on := 9, ground := Ground.phase }, { on := 10, ground := Ground.textOnly Departure.lateStores }, { on := 11, ground := Ground.textOnly Departure.lateStores }, { on := 12, ground := Ground.textOnly Departure.lateStores }, { on := 13, ground := Ground.textOnly Departure.lateStores }, { on := 14, ground := Ground.textOnly Departure.lateStores }, { on := 15, ground := Ground.textOnly Departure.lateStoresUnsure }], guard := none }) (v := ?_) rfl (by as_aux_lemma => kernel_rfl) (by as_aux_lemma => kernel_rfl) (by as_aux_lemma => kernel_rfl) (fun _ _ _ h => h) (tillH (by decide) (by decide)) trivial (Or.inl ⟨by rfl, ?hy⟩) ⟨HX.out _ D2.ext, (fun _ => D2.box.1.1), (fun _ => D2.box.1.2)⟩ ?_
                case hy => ((intro w' hSw; (try dsimp only at hSw); go_simp); (try with_reducible rfl))
                (try simp only [Act.put, List.setIfInBounds_toArray, List.set_cons_zero, List.set_cons_succ])
                refine Gated.next (rs := [14]) (by as_aux_lemma => kernel_rfl) (by simp) ?_
                refine Nexts.cons (j := 14) (o := { dst := some 96, op := Op.buildSlice 22 1 #[(0, Operand.tmp 95)], type := 22, pos := "ref.go:101", after := #[{ on := 13, ground := Ground.data }], guard := none }) rfl (fun K hK => ?_) Nexts.nil
                have D3 := D2.alloc (.cells #[I (Y j)] 3)
                have fVD3 : some (wU.heap.size) ≠ (Value.slice (some ⟨gU, 0, none⟩) ((k + 1 + j) + 1) capU).ownBlock := own_fresh D2.ru (by simp)
                have nVD3 : (wU.alloc (.cells #[I (Y j)] 3)).cell? ⟨wU.heap.size, 0, none⟩ = some (I (Y j)) := by go_simp
                go_simp
                refine hK.out _ _ ⟨HX.out _ D3.ext, (fun _ => D3.box.1.1), (fun _ => D3.box.1.2)⟩ (fun _ => ?_)
                clear hK K
                (try simp only [Act.put, List.setIfInBounds_toArray, List.set_cons_zero, List.set_cons_succ])
                refine Gated.next (rs := [15]) (by as_aux_lemma => kernel_rfl) (by simp) ?_
                refine Nexts.cons (j := 15) (o := { dst := some 97, op := Op.call { callee := Callee.builtin Builtin.append, args := #[Operand.tmp 91, Operand.tmp 96], argTypes := #[22, 22] }, type := 22, pos := "ref.go:101", after := #[{ on := 9, ground := Ground.data }, { on := 14, ground := Ground.data }, { on := 7, ground := Ground.chain }], guard := none }) rfl (fun K hK => ?_) Nexts.nil
                refine step_append_lies _ (by rfl) (.tmp 91) (.tmp 96) 22 (by rfl) _ 3 i0 _ 1 8 Try.underlying22 hi0 hz0 hz1 hz9 rfl (by omega) v (k + 1 + j) (rowL (od k Y) (k + 1 + j)) (by rfl) D3.rv _ 1 1 [I (Y j)] (by rfl) (by rfl) (news1 nVD3) (by simp [Value.oneCell']) (by omega) hm8 hb8 D3.gB.2.2 _ (by rfl) ?_
                intro gV capV wV hoV hgV haV hlV
                have D4 := D3.appV hoV hgV haV
                refine hK.out _ _ ⟨HX.out _ D4.ext, (fun _ => D4.box.1.1), (fun _ => D4.box.1.2)⟩ (fun _ => ?_)
                clear hK K
                (try simp only [Act.put, List.setIfInBounds_toArray, List.set_cons_zero, List.set_cons_succ])
                refine Gated.next (rs := [17]) (by as_aux_lemma => kernel_rfl) (by simp) ?_
                refine Nexts.cons (j := 17) (o := { dst := none, op := Op.store 22 (Operand.tmp 98) (Operand.tmp 89), type := 0, pos := "ref.go:101", after := #[{ on := 16, ground := Ground.data }, { on := 7, ground := Ground.data }, { on := 15, ground := Ground.chain }, { on := 0, ground := Ground.phase }, { on := 1, ground := Ground.phase }, { on := 2, ground := Ground.phase }, { on := 3, ground := Ground.phase }, { on := 4, ground := Ground.phase }, { on := 5, ground := Ground.phase }, { on := 6, ground := Ground.phase }, { on := 7, ground := Ground.phase }, { on := 8, ground := Ground.phase }, { on := 9, ground := Ground.phase }, { on := 10, ground := Ground.textOnly Departure.lateStores }, { on := 11, ground := Ground.textOnly Departure.lateStores }, { on := 12, ground := Ground.textOnly Departure.lateStores }, { on := 13, ground := Ground.textOnly Departure.lateStores }, { on := 14, ground := Ground.textOnly Departure.lateStores }, { on := 15, ground := Ground.textOnly Departure.lateStoresUnsure }], guard := none }) rfl (fun K hK => ?_) Nexts.nil
                obtain ⟨⟨b0D5, b1D5⟩, bfD5⟩ := D4.box
                have D5 := D4.set0 (.slice (some ⟨gU, 0, none⟩) ((k + 1 + j) + 1) capU)
                go_simp
                refine hK.out _ _ ⟨HX.out _ D5.ext, (no_ (by as_aux_lemma => kernel_rfl)), (fun _ => D5.box.1.2)⟩ (fun _ => ?_)
                clear hK K b0D5 b1D5 bfD5
                (try simp only [Act.put, List.setIfInBounds_toArray, List.set_cons_zero, List.set_cons_succ])
                refine Gated.take (i := 18) (o := { dst := some 99, op := Op.fieldAddr 24 (Operand.tmp 6) 1, type := 0, pos := "ref.go:101", after := #[{ on := 0, ground := Ground.phase }, { on := 1, ground := Ground.phase }, { on := 2, ground := Ground.phase }, { on := 3, ground := Ground.phase }, { on := 4, ground := Ground.phase }, { on := 5, ground := Ground.phase }, { on := 6, ground := Ground.phase }, { on := 7, ground := Ground.phase }, { on := 8, ground := Ground.phase }, { on := 9, ground := Ground.phase }, { on := 10, ground := Ground.phase }, { on := 11, ground := Ground.phase }, { on := 12, ground := Ground.phase }, { on := 13, ground := Ground.phase }, { on := 14, ground := Ground.phase }, { on := 15, ground := Ground.phase }, { on := 16, ground := Ground.phase }, { on := 17, ground := Ground.phase }], guard := none }) (v := ?_) rfl (by as_aux_lemma => kernel_rfl) (by as_aux_lemma => kernel_rfl) (by as_aux_lemma => kernel_rfl) (fun _ _ _ h => h) (tillH (by decide) (by decide)) trivial (Or.inl ⟨by rfl, ?hy⟩) ⟨HX.out _ D5.ext, (no_ (by as_aux_lemma => kernel_rfl)), (fun _ => D5.box.1.2)⟩ ?_
                case hy => ((intro w' hSw; (try dsimp only at hSw); go_simp); (try with_reducible rfl))
                (try simp only [Act.put, List.setIfInBounds_toArray, List.set_cons_zero, List.set_cons_succ])
                refine Gated.next (rs := [19]) (by as_aux_lemma => kernel_rfl) (by simp) ?_
                refine Nexts.cons (j := 19) (o := { dst := none, op := Op.store 22 (Operand.tmp 99) (Operand.tmp 97), type := 0, pos := "ref.go:101", after := #[{ on := 18, ground := Ground.data }, { on := 15, ground := Ground.data }, { on := 17, ground := Ground.chain }, { on := 0, ground := Ground.phase }, { on := 1, ground := Ground.phase }, { on := 2, ground := Ground.phase }, { on := 3, ground := Ground.phase }, { on := 4, ground := Ground.phase }, { on := 5, ground := Ground.phase }, { on := 6, ground := Ground.phase }, { on := 7, ground := Ground.phase }, { on := 8, ground := Ground.phase }, { on := 9, ground := Ground.phase }, { on := 10, ground := Ground.phase }, { on := 11, ground := Ground.phase }, { on := 12, ground := Ground.phase }, { on := 13, ground := Ground.phase }, { on := 14, ground := Ground.phase }, { on := 15, ground := Ground.phase }, { on := 16, ground := Ground.phase }, { on := 17, ground := Ground.phase }], guard := none }) rfl (fun K hK => ?_) Nexts.nil
                obtain ⟨⟨b0D6, b1D6⟩, bfD6⟩ := D5.box
                have D6 := D5.set1 (.slice (some ⟨gV, 0, none⟩) ((k + 1 + j) + 1) capV)
                go_simp
                refine hK.out _ _ ⟨HX.out _ D6.ext, (no_ (by as_aux_lemma => kernel_rfl)), (no_ (by as_aux_lemma => kernel_rfl))⟩ (fun _ => ?_)
                clear hK K b0D6 b1D6 bfD6
                (try simp only [Act.put, List.setIfInBounds_toArray, List.set_cons_zero, List.set_cons_succ])
                refine Gated.done (by as_aux_lemma => kernel_rfl) ?_
                (try refine NoPanic.normal ?_)
                have DE := D6
                rw [← rowL_succ' HZX.out, ← rowL_succ' HZY.out] at DE
                go_wp2_with fail
                go_roundw
                case rel => exact ⟨j + 1, _, _, by omega, by go_num, DE⟩
                case measure => simp [intOf] <;> omega
              refine Nexts.cons (j := 14) (o := { dst := some 96, op := Op.buildSlice 22 1 #[(0, Operand.tmp 95)], type := 22, pos := "ref.go:101", after := #[{ on := 13, ground := Ground.data }], guard := none }) rfl (fun K hK => ?_) ?_
              · have D7 := D1.alloc (.cells #[I (Y j)] 3)
                have fVD7 : some (wr.heap.size + 1) ≠ u.ownBlock := own_fresh D1.ru (by simp)
                have nUD7 : ((wr.drew.alloc (.cells #[I (X j)] 3)).alloc (.cells #[I (Y j)] 3)).cell? ⟨wr.heap.size, 0, none⟩ = some (I (X j)) := ((Ext.alloc (wr.drew.alloc (.cells #[I (X j)] 3)) _).old.1 _ 0 (by simp)).trans nUD1
                have nVD7 : ((wr.drew.alloc (.cells #[I (X j)] 3)).alloc (.cells #[I (Y j)] 3)).cell? ⟨wr.heap.size + 1, 0, none⟩ = some (I (Y j)) := by go_simp
                go_simp
                refine hK.out _ _ ⟨HX.out _ D7.ext, (fun _ => D7.box.1.1), (fun _ => D7.box.1.2)⟩ (fun _ => ?_)
                clear hK K
                (try simp only [Act.put, List.setIfInBounds_toArray, List.set_cons_zero, List.set_cons_succ])
                refine Gated.next (rs := [7]) (by as_aux_lemma => kernel_rfl) (by simp) ?_
                refine Nexts.cons (j := 7) (o := { dst := some 89, op := Op.call { callee := Callee.builtin Builtin.append, args := #[Operand.tmp 83, Operand.tmp 88], argTypes := #[22, 22] }, type := 22, pos := "ref.go:101", after := #[{ on := 1, ground := Ground.data }, { on := 6, ground := Ground.data }], guard := none }) rfl (fun K hK => ?_) Nexts.nil
                refine step_append_lies _ (by rfl) (.tmp 83) (.tmp 88) 22 (by rfl) _ 3 i0 _ 1 8 Try.underlying22 hi0 hz0 hz1 hz9 rfl (by omega) u (k + 1 + j) (rowL (od k X) (k + 1 + j)) (by rfl) D7.ru _ 1 1 [I (X j)] (by rfl) (by rfl) (news1 nUD7) (by simp [Value.oneCell']) (by omega) hm8 hb8 D7.gB.2.2 _ (by rfl) ?_
                intro gU capU wU hoU hgU haU hlU
                have D8 := D7.appU hoU hgU haU
                have nVD8 := hgU.cell nVD7 fVD7
                refine hK.out _ _ ⟨HX.out _ D8.ext, (fun _ => D8.box.1.1), (fun _ => D8.box.1.2)⟩ (fun _ => ?_)
                clear hK K
                (try simp only [Act.put, List.setIfInBounds_toArray, List.set_cons_zero, List.set_cons_succ])
                refine Gated.take (i := 16) (o := { dst := some 98, op := Op.fieldAddr 24 (Operand.tmp 6) 0, type := 0, pos := "ref.go:101", after := #[{ on := 0, ground := Ground.phase }, { on := 1, ground := Ground.phase }, { on := 2, ground := Ground.phase }, { on := 3, ground := Ground.phase }, { on := 4, ground := Ground.phase }, { on := 5, ground := Ground.phase }, { on := 6, ground := Ground.phase }, { on := 7, ground := Ground.phase }, { on := 8, ground := Ground.phase }, { on := 9, ground := Ground.phase }, { on := 10, ground := Ground.textOnly Departure.lateStores }, { on := 11, ground := Ground.textOnly Departure.lateStores }, { on := 12, ground := Ground.textOnly Departure.lateStores }, { on := 13, ground := Ground.textOnly Departure.lateStores }, { on := 14, ground := Ground.textOnly Departure.lateStores }, { on := 15, ground := Ground.textOnly Departure.lateStoresUnsure }], guard := none }) (v := ?_) rfl (by as_aux_lemma => kernel_rfl) (by as_aux_lemma => kernel_rfl) (by as_aux_lemma => kernel_rfl) (fun _ _ _ h => h) (tillH (by decide) (by decide)) trivial (Or.inl ⟨by rfl, ?hy⟩) ⟨HX.out _ D8.ext, (fun _ => D8.box.1.1), (fun _ => D8.box.1.2)⟩ ?_
                case hy => ((intro w' hSw; (try dsimp only at hSw); go_simp); (try with_reducible rfl))
                (try simp only [Act.put, List.setIfInBounds_toArray, List.set_cons_zero, List.set_cons_succ])
                refine Gated.next (rs := [15]) (by as_aux_lemma => kernel_rfl) (by simp) ?_
                refine Nexts.cons (j := 15) (o := { dst := some 97, op := Op.call { callee := Callee.builtin Builtin.append, args := #[Operand.tmp 91, Operand.tmp 96], argTypes := #[22, 22] }, type := 22, pos := "ref.go:101", after := #[{ on := 9, ground := Ground.data }, { on := 14, ground := Ground.data }, { on := 7, ground := Ground.chain }], guard := none }) rfl (fun K hK => ?_) Nexts.nil
                refine step_append_lies _ (by rfl) (.tmp 91) (.tmp 96) 22 (by rfl) _ 3 i0 _ 1 8 Try.underlying22 hi0 hz0 hz1 hz9 rfl (by omega) v (k + 1 + j) (rowL (od k Y) (k + 1 + j)) (by rfl) D8.rv _ 1 1 [I (Y j)] (by rfl) (by rfl) (news1 nVD8) (by simp [Value.oneCell']) (by omega) hm8 hb8 D8.gB.2.2 _ (by rfl) ?_
                intro gV capV wV hoV hgV haV hlV
                have D9 := D8.appV hoV hgV haV
                refine hK.out _ _ ⟨HX.out _ D9.ext, (fun _ => D9.box.1.1), (fun _ => D9.box.1.2)⟩ (fun _ => ?_)
                clear hK K
                (try simp only [Act.put, List.setIfInBounds_toArray, List.set_cons_zero, List.set_cons_succ])
                refine Gated.next (rs := [17]) (by as_aux_lemma => kernel_rfl) (by simp) ?_
                refine Nexts.cons (j := 17) (o := { dst := none, op := Op.store 22 (Operand.tmp 98) (Operand.tmp 89), type := 0, pos := "ref.go:101", after := #[{ on := 16, ground := Ground.data }, { on := 7, ground := Ground.data }, { on := 15, ground := Ground.chain }, { on := 0, ground := Ground.phase }, { on := 1, ground := Ground.phase }, { on := 2, ground := Ground.phase }, { on := 3, ground := Ground.phase }, { on := 4, ground := Ground.phase }, { on := 5, ground := Ground.phase }, { on := 6, ground := Ground.phase }, { on := 7, ground := Ground.phase }, { on := 8, ground := Ground.phase }, { on := 9, ground := Ground.phase }, { on := 10, ground := Ground.textOnly Departure.lateStores }, { on := 11, ground := Ground.textOnly Departure.lateStores }, { on := 12, ground := Ground.textOnly Departure.lateStores }, { on := 13, ground := Ground.textOnly Departure.lateStores }, { on := 14, ground := Ground.textOnly Departure.lateStores }, { on := 15, ground := Ground.textOnly Departure.lateStoresUnsure }], guard := none }) rfl (fun K hK => ?_) Nexts.nil
                obtain ⟨⟨b0D10, b1D10⟩, bfD10⟩ := D9.box
                have D10 := D9.set0 (.slice (some ⟨gU, 0, none⟩) ((k + 1 + j) + 1) capU)
                go_simp
                refine hK.out _ _ ⟨HX.out _ D10.ext, (no_ (by as_aux_lemma => kernel_rfl)), (fun _ => D10.box.1.2)⟩ (fun _ => ?_)
                clear hK K b0D10 b1D10 bfD10
                (try simp only [Act.put, List.setIfInBounds_toArray, List.set_cons_zero, List.set_cons_succ])
                refine Gated.take (i := 18) (o := { dst := some 99, op := Op.fieldAddr 24 (Operand.tmp 6) 1, type := 0, pos := "ref.go:101", after := #[{ on := 0, ground := Ground.phase }, { on := 1, ground := Ground.phase }, { on := 2, ground := Ground.phase }, { on := 3, ground := Ground.phase }, { on := 4, ground := Ground.phase }, { on := 5, ground := Ground.phase }, { on := 6, ground := Ground.phase }, { on := 7, ground := Ground.phase }, { on := 8, ground := Ground.phase }, { on := 9, ground := Ground.phase }, { on := 10, ground := Ground.phase }, { on := 11, ground := Ground.phase }, { on := 12, ground := Ground.phase }, { on := 13, ground := Ground.phase }, { on := 14, ground := Ground.phase }, { on := 15, ground := Ground.phase }, { on := 16, ground := Ground.phase }, { on := 17, ground := Ground.phase }], guard := none }) (v := ?_) rfl (by as_aux_lemma => kernel_rfl) (by as_aux_lemma => kernel_rfl) (by as_aux_lemma => kernel_rfl) (fun _ _ _ h => h) (tillH (by decide) (by decide)) trivial (Or.inl ⟨by rfl, ?hy⟩) ⟨HX.out _ D10.ext, (no_ (by as_aux_lemma => kernel_rfl)), (fun _ => D10.box.1.2)⟩ ?_
                case hy => ((intro w' hSw; (try dsimp only at hSw); go_simp); (try with_reducible rfl))
                (try simp only [Act.put, List.setIfInBounds_toArray, List.set_cons_zero, List.set_cons_succ])
                refine Gated.next (rs := [19]) (by as_aux_lemma => kernel_rfl) (by simp) ?_
                refine Nexts.cons (j := 19) (o := { dst := none, op := Op.store 22 (Operand.tmp 99) (Operand.tmp 97), type := 0, pos := "ref.go:101", after := #[{ on := 18, ground := Ground.data }, { on := 15, ground := Ground.data }, { on := 17, ground := Ground.chain }, { on := 0, ground := Ground.phase }, { on := 1, ground := Ground.phase }, { on := 2, ground := Ground.phase }, { on := 3, ground := Ground.phase }, { on := 4, ground := Ground.phase }, { on := 5, ground := Ground.phase }, { on := 6, ground := Ground.phase }, { on := 7, ground := Ground.phase }, { on := 8, ground := Ground.phase }, { on := 9, ground := Ground.phase }, { on := 10, ground := Ground.phase }, { on := 11, ground := Ground.phase }, { on := 12, ground := Ground.phase }, { on := 13, ground := Ground.phase }, { on := 14, ground := Ground.phase }, { on := 15, ground := Ground.phase }, { on := 16, ground := Ground.phase }, { on := 17, ground := Ground.phase }], guard := none }) rfl (fun K hK => ?_) Nexts.nil
                obtain ⟨⟨b0D11, b1D11⟩, bfD11⟩ := D10.box
                have D11 := D10.set1 (.slice (some ⟨gV, 0, none⟩) ((k + 1 + j) + 1) capV)
                go_simp
                refine hK.out _ _ ⟨HX.out _ D11.ext, (no_ (by as_aux_lemma => kernel_rfl)), (no_ (by as_aux_lemma => kernel_rfl))⟩ (fun _ => ?_)
                clear hK K b0D11 b1D11 bfD11
                (try simp only [Act.put, List.setIfInBounds_toArray, List.set_cons_zero, List.set_cons_succ])
                refine Gated.done (by as_aux_lemma => kernel_rfl) ?_
                (try refine NoPanic.normal ?_)
                have DE := D11
                rw [← rowL_succ' HZX.out, ← rowL_succ' HZY.out] at DE
                go_wp2_with fail
                go_roundw
                case rel => exact ⟨j + 1, _, _, by omega, by go_num, DE⟩
                case measure => simp [intOf] <;> omega
              exact Nexts.nil
            refine Nexts.cons (j := 14) (o := { dst := some 96, op := Op.buildSlice 22 1 #[(0, Operand.tmp 95)], type := 22, pos := "ref.go:101", after := #[{ on := 13, ground := Ground.data }], guard := none }) rfl (fun K hK => ?_) ?_
            · have D12 := D0.alloc (.cells #[I (Y j)] 3)
              have fVD12 : some (wr.heap.size) ≠ u.ownBlock := own_fresh D0.ru (by simp)
              have nVD12 : (wr.drew.alloc (.cells #[I (Y j)] 3)).cell? ⟨wr.heap.size, 0, none⟩ = some (I (Y j)) := by go_simp
              go_simp
              refine hK.out _ _ ⟨HX.out _ D12.ext, (fun _ => D12.box.1.1), (fun _ => D12.box.1.2)⟩ (fun _ => ?_)
              clear hK K
              (try simp only [Act.put, List.setIfInBounds_toArray, List.set_cons_zero, List.set_cons_succ])
              refine Gated.next (rs := [6]) (by as_aux_lemma => kernel_rfl) (by simp) ?_
              refine Nexts.cons (j := 6) (o := { dst := some 88, op := Op.buildSlice 22 1 #[(0, Operand.tmp 87)], type := 22, pos := "ref.go:101", after := #[{ on := 5, ground := Ground.data }], guard := none }) rfl (fun K hK => ?_) Nexts.nil
              have D13 := D12.alloc (.cells #[I (X j)] 3)
              have nVD13 : ((wr.drew.alloc (.cells #[I (Y j)] 3)).alloc (.cells #[I (X j)] 3)).cell? ⟨wr.heap.size, 0, none⟩ = some (I (Y j)) := ((Ext.alloc (wr.drew.alloc (.cells #[I (Y j)] 3)) _).old.1 _ 0 (by simp)).trans nVD12
              have nUD13 : ((wr.drew.alloc (.cells #[I (Y j)] 3)).alloc (.cells #[I (X j)] 3)).cell? ⟨wr.heap.size + 1, 0, none⟩ = some (I (X j)) := by go_simp
              go_simp
              refine hK.out _ _ ⟨HX.out _ D13.ext, (fun _ => D13.box.1.1), (fun _ => D13.box.1.2)⟩ (fun _ => ?_)
              clear hK K
              (try simp only [Act.put, List.setIfInBounds_toArray, List.set_cons_zero, List.set_cons_succ])
              refine Gated.next (rs := [7]) (by as_aux_lemma => kernel_rfl) (by simp) ?_
              refine Nexts.cons (j := 7) (o := { dst := some 89, op := Op.call { callee := Callee.builtin Builtin.append, args := #[Operand.tmp 83, Operand.tmp 88], argTypes := #[22, 22] }, type := 22, pos := "ref.go:101", after := #[{ on := 1, ground := Ground.data }, { on := 6, ground := Ground.data }], guard := none }) rfl (fun K hK => ?_) Nexts.nil
              refine step_append_lies _ (by rfl) (.tmp 83) (.tmp 88) 22 (by rfl) _ 3 i0 _ 1 8 Try.underlying22 hi0 hz0 hz1 hz9 rfl (by omega) u (k + 1 + j) (rowL (od k X) (k + 1 + j)) (by rfl) D13.ru _ 1 1 [I (X j)] (by rfl) (by rfl) (news1 nUD13) (by simp [Value.oneCell']) (by omega) hm8 hb8 D13.gB.2.2 _ (by rfl) ?_
              intro gU capU wU hoU hgU haU hlU
              have D14 := D13.appU hoU hgU haU
              have nVD14 := hgU.cell nVD13 fVD12
              refine hK.out _ _ ⟨HX.out _ D14.ext, (fun _ => D14.box.1.1), (fun _ => D14.box.1.2)⟩ (fun _ => ?_)
              clear hK K
              (try simp only [Act.put, List.setIfInBounds_toArray, List.set_cons_zero, List.set_cons_succ])
              refine Gated.take (i := 16) (o := { dst := some 98, op := Op.fieldAddr 24 (Operand.tmp 6) 0, type := 0, pos := "ref.go:101", after := #[{ on := 0, ground := Ground.phase }, { on := 1, ground := Ground.phase }, { on := 2, ground := Ground.phase }, { on := 3, ground := Ground.phase }, { on := 4, ground := Ground.phase }, { on := 5, ground := Ground.phase }, { on := 6, ground := Ground.phase }, { on := 7, ground := Ground.phase }, { on := 8, ground := Ground.phase }, { on := 9, ground := Ground.phase }, { on := 10, ground := Ground.textOnly Departure.lateStores }, { on := 11, ground := Ground.textOnly Departure.lateStores }, { on := 12, ground := Ground.textOnly Departure.lateStores }, { on := 13, ground := Ground.textOnly Departure.lateStores }, { on := 14, ground := Ground.textOnly Departure.lateStores }, { on := 15, ground := Ground.textOnly Departure.lateStoresUnsure }], guard := none }) (v := ?_) rfl (by as_aux_lemma => kernel_rfl) (by as_aux_lemma => kernel_rfl) (by as_aux_lemma => kernel_rfl) (fun _ _ _ h => h) (tillH (by decide) (by decide)) trivial (Or.inl ⟨by rfl, ?hy⟩) ⟨HX.out _ D14.ext, (fun _ => D14.box.1.1), (fun _ => D14.box.1.2)⟩ ?_
              case hy => ((intro w' hSw; (try dsimp only at hSw); go_simp); (try with_reducible rfl))
              (try simp only [Act.put, List.setIfInBounds_toArray, List.set_cons_zero, List.set_cons_succ])
              refine Gated.next (rs := [15]) (by as_aux_lemma => kernel_rfl) (by simp) ?_
              refine Nexts.cons (j := 15) (o := { dst := some 97, op := Op.call { callee := Callee.builtin Builtin.append, args := #[Operand.tmp 91, Operand.tmp 96], argTypes := #[22, 22] }, type := 22, pos := "ref.go:101", after := #[{ on := 9, ground := Ground.data }, { on := 14, ground := Ground.data }, { on := 7, ground := Ground.chain }], guard := none }) rfl (fun K hK => ?_) Nexts.nil
              refine step_append_lies _ (by rfl) (.tmp 91) (.tmp 96) 22 (by rfl) _ 3 i0 _ 1 8 Try.underlying22 hi0 hz0 hz1 hz9 rfl (by omega) v (k + 1 + j) (rowL (od k Y) (k + 1 + j)) (by rfl) D14.rv _ 1 1 [I (Y j)] (by rfl) (by rfl) (news1 nVD14) (by simp [Value.oneCell']) (by omega) hm8 hb8 D14.gB.2.2 _ (by rfl) ?_
              intro gV capV wV hoV hgV haV hlV
              have D15 := D14.appV hoV hgV haV
              refine hK.out _ _ ⟨HX.out _ D15.ext, (fun _ => D15.box.1.1), (fun _ => D15.box.1.2)⟩ (fun _ => ?_)
              clear hK K
              (try simp only [Act.put, List.setIfInBounds_toArray, List.set_cons_zero, List.set_cons_succ])
              refine Gated.next (rs := [17]) (by as_aux_lemma => kernel_rfl) (by simp) ?_
              refine Nexts.cons (j := 17) (o := { dst := none, op := Op.store 22 (Operand.tmp 98) (Operand.tmp 89), type := 0, pos := "ref.go:101", after := #[{ on := 16, ground := Ground.data }, { on := 7, ground := Ground.data }, { on := 15, ground := Ground.chain }, { on := 0, ground := Ground.phase }, { on := 1, ground := Ground.phase }, { on := 2, ground := Ground.phase }, { on := 3, ground := Ground.phase }, { on := 4, ground := Ground.phase }, { on := 5, ground := Ground.phase }, { on := 6, ground := Ground.phase }, { on := 7, ground := Ground.phase }, { on := 8, ground := Ground.phase }, { on := 9, ground := Ground.phase }, { on := 10, ground := Ground.textOnly Departure.lateStores }, { on := 11, ground := Ground.textOnly Departure.lateStores }, { on := 12, ground := Ground.textOnly Departure.lateStores }, { on := 13, ground := Ground.textOnly Departure.lateStores }, { on := 14, ground := Ground.textOnly Departure.lateStores }, { on := 15, ground := Ground.textOnly Departure.lateStoresUnsure }], guard := none }) rfl (fun K hK => ?_) Nexts.nil
              obtain ⟨⟨b0D16, b1D16⟩, bfD16⟩ := D15.box
              have D16 := D15.set0 (.slice (some ⟨gU, 0, none⟩) ((k + 1 + j) + 1) capU)
              go_simp
              refine hK.out _ _ ⟨HX.out _ D16.ext, (no_ (by as_aux_lemma => kernel_rfl)), (fun _ => D16.box.1.2)⟩ (fun _ => ?_)
              clear hK K b0D16 b1D16 bfD16
              (try simp only [Act.put, List.setIfInBounds_toArray, List.set_cons_zero, List.set_cons_succ])
              refine Gated.take (i := 18) (o := { dst := some 99, op := Op.fieldAddr 24 (Operand.tmp 6) 1, type := 0, pos := "ref.go:101", after := #[{ on := 0, ground := Ground.phase }, { on := 1, ground := Ground.phase }, { on := 2, ground := Ground.phase }, { on := 3, ground := Ground.phase }, { on := 4, ground := Ground.phase }, { on := 5, ground := Ground.phase }, { on := 6, ground := Ground.phase }, { on := 7, ground := Ground.phase }, { on := 8, ground := Ground.phase }, { on := 9, ground := Ground.phase }, { on := 10, ground := Ground.phase }, { on := 11, ground := Ground.phase }, { on := 12, ground := Ground.phase }, { on := 13, ground := Ground.phase }, { on := 14, ground := Ground.phase }, { on := 15, ground := Ground.phase }, { on := 16, ground := Ground.phase }, { on := 17, ground := Ground.phase }], guard := none }) (v := ?_) rfl (by as_aux_lemma => kernel_rfl) (by as_aux_lemma => kernel_rfl) (by as_aux_lemma => kernel_rfl) (fun _ _ _ h => h) (tillH (by decide) (by decide)) trivial (Or.inl ⟨by rfl, ?hy⟩) ⟨HX.out _ D16.ext, (no_ (by as_aux_lemma => kernel_rfl)), (fun _ => D16.box.1.2)⟩ ?_
              case hy => ((intro w' hSw; (try dsimp only at hSw); go_simp); (try with_reducible rfl))
              (try simp only [Act.put, List.setIfInBounds_toArray, List.set_cons_zero, List.set_cons_succ])
              refine Gated.next (rs := [19]) (by as_aux_lemma => kernel_rfl) (by simp) ?_
              refine Nexts.cons (j := 19) (o := { dst := none, op := Op.store 22 (Operand.tmp 99) (Operand.tmp 97), type := 0, pos := "ref.go:101", after := #[{ on := 18, ground := Ground.data }, { on := 15, ground := Ground.data }, { on := 17, ground := Ground.chain }, { on := 0, ground := Ground.phase }, { on := 1, ground := Ground.phase }, { on := 2, ground := Ground.phase }, { on := 3, ground := Ground.phase }, { on := 4, ground := Ground.phase }, { on := 5, ground := Ground.phase }, { on := 6, ground := Ground.phase }, { on := 7, ground := Ground.phase }, { on := 8, ground := Ground.phase }, { on := 9, ground := Ground.phase }, { on := 10, ground := Ground.phase }, { on := 11, ground := Ground.phase }, { on := 12, ground := Ground.phase }, { on := 13, ground := Ground.phase }, { on := 14, ground := Ground.phase }, { on := 15, ground := Ground.phase }, { on := 16, ground := Ground.phase }, { on := 17, ground := Ground.phase }], guard := none }) rfl (fun K hK => ?_) Nexts.nil
              obtain ⟨⟨b0D17, b1D17⟩, bfD17⟩ := D16.box
              have D17 := D16.set1 (.slice (some ⟨gV, 0, none⟩) ((k + 1 + j) + 1) capV)
              go_simp
              refine hK.out _ _ ⟨HX.out _ D17.ext, (no_ (by as_aux_lemma => kernel_rfl)), (no_ (by as_aux_lemma => kernel_rfl))⟩ (fun _ => ?_)
              clear hK K b0D17 b1D17 bfD17
              (try simp only [Act.put, List.setIfInBounds_toArray, List.set_cons_zero, List.set_cons_succ])
              refine Gated.done (by as_aux_lemma => kernel_rfl) ?_
              (try refine NoPanic.normal ?_)
              have DE := D17
              rw [← rowL_succ' HZX.out, ← rowL_succ' HZY.out] at DE
              go_wp2_with fail
              go_roundw
              case rel => exact ⟨j + 1, _, _, by omega, by go_num, DE⟩
              case measure => simp [intOf] <;> omega
            exact Nexts.nil
          · obtain rfl : j = k := by omega
            rw [show j + 1 + j = 2 * j + 1 by omega] at D
            obtain ⟨gU, cU, rfl, hU, lU⟩ := D.ru.form (by omega)
            obtain ⟨gV, cV, rfl, hV, lV⟩ := D.rv.form (by omega)
            obtain ⟨⟨r0, r1⟩, rf⟩ := RB.out _ D.ext
            have RA := Lib.hid ((Ri.of_row D.ru rfl))
            have RBB := Lib.hid ((Ri.of_row D.rv rfl))
            have ED := Lib.hid D.ext
            have BD := Lib.hid D.box
            have HC := Lib.hid (fun w' (he : Ext wr w') => rcheck_any (c := cU) (e := cV) (RA.out.ext he) (RBB.out.ext he) (by unfold maxLen; omega) (by unfold maxLen; omega))
            obtain ⟨K, hK⟩ : ∃ K, chk (2 * j + 1) (2 * j + 1) (od j X) (od j Y) = K := ⟨_, rfl⟩
            rw [hK] at HC
            have HKK := Lib.hid hK
            have c0' := BD.out.1.1
            have c1' := BD.out.1.2
            clear hK D c0 c1
            have c0 := c0'; have c1 := c1'
            clear c0' c1'
            by_cases hK0 : K = 0
            · subst hK0
              go_wp2_with (go_at_call 18; (with_reducible refine (HC.out _ (Ext.refl _)).mono ?_); rintro e9 w9 ⟨rfl, hx9⟩; have E9 := Lib.hid (ED.out.trans hx9); have B9 := BD.out.ext hx9; have RA9 := Lib.hid (RA.out.ext hx9); have RB9 := Lib.hid (RBB.out.ext hx9); clear c0 c1 cf; obtain ⟨⟨c0, c1⟩, cf⟩ := B9; have S9 := RB.out _ E9.out; clear r0 r1 rf; obtain ⟨⟨r0, r1⟩, rf⟩ := S9; clear hx9)
              have Q := Lib.hid (box_set (.slice (some ⟨gU, 0, none⟩) (2 * j + 1) cU) (.slice (some ⟨gV, 0, none⟩) (2 * j + 1) cV) r0 r1)
              exact bodyPost_ret (v := .tuple #[cv (some ⟨gU, 0, none⟩) (2 * j + 1) cU (some ⟨gV, 0, none⟩) (2 * j + 1) cV, I 0]) (by simp [results, Try.results28, go_sem, Q.out.1, Q.out.2]) rfl (.inr ⟨HGG.out, .inl ⟨HKK.out, _, _, _, _, rfl, ⟨by omega, by omega⟩, RA9.out.far (by omega) (box_far _ _ _ _ _ (by omega)), RB9.out.far (by omega) (box_far _ _ _ _ _ (by omega)), (((Ext.alloc w _).trans E9.out).set (Nat.le_refl _) _).set (Nat.le_refl _) _⟩⟩)
            · have hK1 : (K != 0) = true := by simpa using hK0
              have hK2 : decide (K = 0) = false := by simpa using hK0
              go_wp2_with (go_at_call 18; (with_reducible refine (HC.out _ (Ext.refl _)).mono ?_); rintro e9 w9 ⟨rfl, hx9⟩; have E9 := Lib.hid (ED.out.trans hx9); have B9 := BD.out.ext hx9; have RA9 := Lib.hid (RA.out.ext hx9); have RB9 := Lib.hid (RBB.out.ext hx9); clear c0 c1 cf; obtain ⟨⟨c0, c1⟩, cf⟩ := B9; have S9 := RB.out _ E9.out; clear r0 r1 rf; obtain ⟨⟨r0, r1⟩, rf⟩ := S9; clear hx9)
              have Q := Lib.hid (box_set (.slice none 0 0) (.slice none 0 0) r0 r1)
              exact bodyPost_ret (v := .tuple #[cv none 0 0 none 0 0, I K]) (by simp [results, Try.results28, go_sem, Q.out.1, Q.out.2]) rfl (.inr ⟨HGG.out, .inr ⟨by rw [HKK.out]; exact hK0, by rw [HKK.out], (((Ext.alloc w _).trans E9.out).set (Nat.le_refl _) _).set (Nat.le_refl _) _⟩⟩)

end Go.Proofs.Ytdcollchhcjaaaa
