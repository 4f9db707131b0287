/- The order of the elements of Dot. -/
import Derived.Test.YtfllhbebackbdaaWordr
import Derived.Deep.RegionHeld3
import Derived.Deep.AppendLies
namespace Go.Proofs.Ytfllhbebackbdaa
open Go.RowKit

def revL (f : Nat → Int) (L k : Nat) : List Value := (List.range k).map fun i => I (f (L - 1 - i))
theorem revL_succ (f : Nat → Int) (L k : Nat) : revL f L (k + 1) = revL f L k ++ [I (f (L - 1 - k))] := by
  unfold revL; rw [List.range_succ]; simp
theorem revL_len (f : Nat → Int) (L k : Nat) : (revL f L k).length = k := by unfold revL; simp
theorem revL_get (f : Nat → Int) (L k i : Nat) (h : i < k) : (revL f L k)[i]? = some (I (f (L - 1 - i))) := by
  unfold revL; simp [h]
theorem Try.infoInt : (Try.prog.info? 3).map (fun i => (i.zero, i.size, i.bytes)) = some (some (.int .i64 0), 1, 8) := by kernel_rfl

set_option maxRecDepth 100000 in
set_option maxHeartbeats 1000000 in
theorem order_short (b s n m : Int) (aA aB : Option Addr) (LA cA LB cB : Nat) (w : World) (h : ¬ (LA = LB ∧ 1 ≤ LA ∧ LA ≤ 200)) :
    Calls Try.prog 12 #[fmt b s, .agg #[.slice aA LA cA, .slice aB LB cB], .agg #[I n, I m]] w fun e w' => e = .returned (.bool true) ∧ Ext w w' := by
  by_cases h1 : LA = LB
  · subst h1
    by_cases h2 : LA = 0
    · subst h2
      go_enter Try.func12, Try.ntmps12
      go_wp2_with (first | (go_at_call 14; refine (awake_any _).mono ?_; rintro e w1 ⟨rfl, hb1⟩; (first | replace hb := Ext.trans hb hb1 | replace hb := Ext.trans (Ext.trans hb (Ext.drewN _ _)) hb1 | replace hb := Ext.trans (Ext.trans hb (Ext.alloc _ _)) hb1 | have hb := hb1); clear hb1; obtain ⟨hc1, hf1⟩ := hb.old))
      go_ret
      exact ⟨rfl, (by repeat (first | exact Ext.refl _ | assumption | exact Ext.alloc _ _ | refine Ext.trans ?_ (by assumption) | refine Ext.trans ?_ (Ext.alloc _ _) | refine Ext.trans ?_ (Ext.drewN _ _) | refine Ext.trans ?_ (Ext.drew _)))⟩
    · have h3 : ((LA : Int) == 0) = false := by simp; omega
      have h4 : (200 : Int) < LA := by omega
      clear h
      go_enter Try.func12, Try.ntmps12
      go_wp2_with (first | (go_at_call 14; refine (awake_any _).mono ?_; rintro e w1 ⟨rfl, hb1⟩; (first | replace hb := Ext.trans hb hb1 | replace hb := Ext.trans (Ext.trans hb (Ext.drewN _ _)) hb1 | replace hb := Ext.trans (Ext.trans hb (Ext.alloc _ _)) hb1 | have hb := hb1); clear hb1; obtain ⟨hc1, hf1⟩ := hb.old))
      go_ret
      exact ⟨rfl, (by repeat (first | exact Ext.refl _ | assumption | exact Ext.alloc _ _ | refine Ext.trans ?_ (by assumption) | refine Ext.trans ?_ (Ext.alloc _ _) | refine Ext.trans ?_ (Ext.drewN _ _) | refine Ext.trans ?_ (Ext.drew _)))⟩
  · have h3 : ((LA : Int) != (LB : Int)) = true := by simp; omega
    clear h
    go_enter Try.func12, Try.ntmps12
    go_wp2_with (first | (go_at_call 14; refine (awake_any _).mono ?_; rintro e w1 ⟨rfl, hb1⟩; (first | replace hb := Ext.trans hb hb1 | replace hb := Ext.trans (Ext.trans hb (Ext.drewN _ _)) hb1 | replace hb := Ext.trans (Ext.trans hb (Ext.alloc _ _)) hb1 | have hb := hb1); clear hb1; obtain ⟨hc1, hf1⟩ := hb.old))
    go_ret
    exact ⟨rfl, (by repeat (first | exact Ext.refl _ | assumption | exact Ext.alloc _ _ | refine Ext.trans ?_ (by assumption) | refine Ext.trans ?_ (Ext.alloc _ _) | refine Ext.trans ?_ (Ext.drewN _ _) | refine Ext.trans ?_ (Ext.drew _)))⟩

theorem keepS {w1 w' : World} {bx ba bb oa ob : Nat} {A B x y : Value} (hws : bx < w1.heap.size) (hwa : ba < w1.heap.size) (hwb : bb < w1.heap.size) (x0 : w1.cell? ⟨bx, 0, none⟩ = some A) (x1 : w1.cell? ⟨bx, 1, none⟩ = some B)
    (za : w1.cell? ⟨ba, oa, none⟩ = some x) (zb : w1.cell? ⟨bb, ob, none⟩ = some y) (h : Ext w1 w') :
    w'.cell? ⟨bx, 0, none⟩ = some A ∧ w'.cell? ⟨bx, 1, none⟩ = some B ∧ w'.cell? ⟨ba, oa, none⟩ = some x ∧ w'.cell? ⟨bb, ob, none⟩ = some y :=
  ⟨(h.old.1 _ _ hws).trans x0, (h.old.1 _ _ hws).trans x1, (h.old.1 _ _ hwa).trans za, (h.old.1 _ _ hwb).trans zb⟩
theorem newsS {w : World} {ad : Addr} {v : Value} (h : w.cell? ad = some v) : ∀ j u, [v][j]? = some u → w.cell? (ad.add j) = some u := by
  intro j u hj
  cases j with
  | zero => simp at hj; subst hj; exact h
  | succ j => simp at hj
theorem grownS {w1 w w' : World} {v : Value} {n : Nat} (h : Ext w1 w) (hg : w.grownBy w' v.ownBlock) (hl : ∀ k, v.ownBlock = some k → w1.heap.size ≤ k ∧ k < n) : Ext w1 w' :=
  Below.grown h hg h.size (fun k hk => (hl k hk).1)
theorem hne2 {u8 u9 : Value} (h : u8.ownBlock = none ∨ u8.ownBlock ≠ u9.ownBlock) : u9.ownBlock = none ∨ u9.ownBlock ≠ u8.ownBlock := by
  rcases h with h | h
  · rw [h]; cases u9.ownBlock with
    | none => exact .inl rfl
    | some k => exact .inr (by simp)
  · exact .inr (Ne.symm h)
theorem distS {u8 u9 : Value} {ga H B n : Nat} (h : u8.ownBlock = none ∨ u8.ownBlock ≠ u9.ownBlock) (ha : u8.ownBlock = some ga ∨ ga = H) (hl : ∀ k, u9.ownBlock = some k → B ≤ k ∧ k < n) (hn : n ≤ H) : some ga ≠ u9.ownBlock := by
  intro e
  rcases ha with ha | rfl
  · rcases h with h | h
    · rw [h] at ha; cases ha
    · exact h (ha.trans e)
  · have := hl _ e.symm; omega
theorem distB {u9 : Value} {ga gb H n : Nat} (h : some ga ≠ u9.ownBlock) (ha : u9.ownBlock = some gb ∨ gb = H) (hl : ga < n) (hn : n ≤ H) : some ga ≠ some gb := by
  intro e
  rcases ha with ha | rfl
  · exact h (e.trans ha.symm)
  · simp at e; omega
theorem ownS {w : World} {base : Nat} {e : TypeId} {v : Value} {n : Nat} {xs : List Value} (h : w.ownsRow base e 1 v n xs) (hn : 1 ≤ n) :
    ∃ g cap, v = .slice (some ⟨g, 0, none⟩) n cap ∧ g < w.heap.size ∧ ∀ j u, xs[j]? = some u → w.cell? ⟨g, 0 + j, none⟩ = some u := by
  have hl := h.lt
  have hc := fun g hg => World.ownsRow.cells h (g := g) hg
  obtain ⟨_, ⟨_, h0⟩ | ⟨g, cap, cur, rfl, _⟩⟩ := h
  · omega
  · exact ⟨g, cap, rfl, (hl g rfl).2, fun j u hj => by
      have := hc g rfl j u hj
      by_cases hj0 : j = 0
      · subst hj0; simpa [Addr.add] using this
      · simpa [Addr.add, hj0] using this⟩
theorem dot_swap (b s n m : Int) (f g : Nat → Int) (L : Nat) : dotF b s n m g f L = dotF b s n m f g L := by
  have ha : allB b g f L = allB b f g L := by
    rw [Bool.eq_iff_iff, allB_iff, allB_iff]
    exact ⟨fun h k hk => (h k hk).symm, fun h k hk => (h k hk).symm⟩
  have hs : ∀ k, sumS g f k = sumS f g k := by
    intro k
    induction k with
    | zero => rfl
    | succ k ih => show sumS g f k + g k * f k = sumS f g k + f k * g k; rw [ih, Int.mul_comm]
  have hl : lstF b s g f L = lstF b s f g L := by unfold lstF; rw [ha]
  have hP : dotP b s n m g f L ↔ dotP b s n m f g L := by unfold dotP; rw [hl]
  by_cases hp : dotP b s n m f g L
  · rw [dot_ok hp, dot_ok (hP.2 hp), hs]
  · rw [dot_bad hp, dot_bad (fun h => hp (hP.1 h))]
theorem newB {v : Value} {B n k : Nat} (hl : ∀ k, v.ownBlock = some k → B ≤ k ∧ k < n) (h : n ≤ k) : some k ≠ v.ownBlock := by
  intro e; have := hl k e.symm; omega

set_option maxRecDepth 100000 in
set_option maxHeartbeats 1000000 in
theorem order_long (b s n m : Int) (f g : Nat → Int) (L : Nat) (hL0 : 1 ≤ L) (hL1 : L ≤ 200) (w : World) (ba oa ca bb ob cb : Nat) (ha : ba < w.heap.size) (hb' : bb < w.heap.size) (hca : L ≤ ca) (hcb : L ≤ cb)
    (fa : ∀ i, i < L → w.cell? ⟨ba, oa + i, none⟩ = some (I (f i))) (fb : ∀ i, i < L → w.cell? ⟨bb, ob + i, none⟩ = some (I (g i))) :
    Calls Try.prog 12 #[fmt b s, .agg #[.slice (some ⟨ba, oa, none⟩) L ca, .slice (some ⟨bb, ob, none⟩) L cb], .agg #[I n, I m]] w fun e w' => e = .returned (.bool true) ∧ Ext w w' := by
  have h3 : ((L : Int) == 0) = false := by simp; omega
  have FA := Lib.hid fa; clear fa
  have FB := Lib.hid fb; clear fb
  have HA : Hid (∀ w', Ext w w' → ∀ i, i < L → w'.cell? ⟨ba, oa + i, none⟩ = some (I (f i))) := fun w' hw' i hi => (hw'.old.1 ba (oa + i) ha).trans (FA.out i hi)
  have HB : Hid (∀ w', Ext w w' → ∀ i, i < L → w'.cell? ⟨bb, ob + i, none⟩ = some (I (g i))) := fun w' hw' i hi => (hw'.old.1 bb (ob + i) hb').trans (FB.out i hi)
  go_enter Try.func12, Try.ntmps12
  go_wp2_with (first | (go_at_call 14; refine (awake_any _).mono ?_; rintro e w1 ⟨rfl, hb1⟩; (first | replace hb := Ext.trans hb hb1 | replace hb := Ext.trans (Ext.trans hb (Ext.drewN _ _)) hb1 | replace hb := Ext.trans (Ext.trans hb (Ext.alloc _ _)) hb1 | have hb := hb1); clear hb1; obtain ⟨hc1, hf1⟩ := hb.old))
  have HF := Lib.hid hb
  have x0 : w1.cell? ⟨w.heap.size + 1, 0, none⟩ = some (.slice (some ⟨ba, oa, none⟩) L ca) := by rw [hc1 _ _ (by simp <;> omega)]; go_simp
  have x1 : w1.cell? ⟨w.heap.size + 1, 1, none⟩ = some (.slice (some ⟨bb, ob, none⟩) L cb) := by rw [hc1 _ _ (by simp <;> omega)]; go_simp
  have z0 : w1.cell? ⟨w.heap.size, 0, none⟩ = some (I b) := by rw [hc1 _ _ (by simp <;> omega)]; go_simp
  have z1 : w1.cell? ⟨w.heap.size, 1, none⟩ = some (I s) := by rw [hc1 _ _ (by simp <;> omega)]; go_simp
  have z2 : w1.cell? ⟨w.heap.size + 1 + 1, 0, none⟩ = some (I n) := by rw [hc1 _ _ (by simp <;> omega)]; go_simp
  have z3 : w1.cell? ⟨w.heap.size + 1 + 1, 1, none⟩ = some (I m) := by rw [hc1 _ _ (by simp <;> omega)]; go_simp
  have hws : w.heap.size + 1 < w1.heap.size := by have := HF.out.size; simp at this; omega
  have hws0 : w.heap.size < w1.heap.size := by omega
  have hws2 : w.heap.size + 1 + 1 < w1.heap.size := by have := HF.out.size; simp at this; omega
  have hwa : ba < w1.heap.size := by omega
  have hwb : bb < w1.heap.size := by omega
  have hE1 : Hid (Ext w w1) := (((Ext.alloc _ _).trans (Ext.alloc _ _)).trans (Ext.alloc _ _)).trans HF.out
  clear hb hc1 hf1
  obtain ⟨i0, hi0, hz0, hz1, hz2⟩ := info_parts Try.infoInt
  go_loopw [8, 9, 45] (fun va vb c wr => Ext w1 wr ∧ ∃ k : Nat, k ≤ L ∧ c = I k ∧ wr.ownsRow w1.heap.size 3 1 va k (revL f L k) ∧ wr.ownsRow w1.heap.size 3 1 vb k (revL g L k) ∧ Hid (va.ownBlock = none ∨ va.ownBlock ≠ vb.ownBlock)) (fun _ _ c _ => L - (intOf c).toNat)
  case atStart => exact ⟨(by repeat (first | exact Ext.refl _ | assumption | exact Ext.alloc _ _ | refine Ext.trans ?_ (by assumption) | refine Ext.trans ?_ (Ext.alloc _ _) | refine Ext.trans ?_ (Ext.drewN _ _) | refine Ext.trans ?_ (Ext.drew _))), 0, Nat.zero_le _, rfl, World.ownsRow_nil _ _ _ _, World.ownsRow_nil _ _ _ _, .inl rfl⟩
  case round =>
    obtain ⟨hb, k, hk, rfl, hva, hvb, hne⟩ := hrel
    by_cases hlt : k < L
    · obtain ⟨j, hj⟩ : ∃ j, j = L - 1 - k := ⟨_, rfl⟩
      have hjl : j < L := by omega
      have HJ := Lib.hid hj
      have e2 : IntKind.i64.wrap ((L : Int) - 1 - k) = (j : Int) := by rw [IntWalk.i64_in _ (by omega)]; omega
      have i1 : (0 : Int) ≤ (j : Int) := by omega
      have i2 : (j : Int) < (L : Int) := by omega
      clear hj
      have y0 := (hb.old.1 (w.heap.size + 1) 0 hws).trans x0
      have y1 := (hb.old.1 (w.heap.size + 1) 1 hws).trans x1
      have ya := (hb.old.1 ba (oa + j) hwa).trans (HA.out w1 hE1.out j hjl)
      have yb := (hb.old.1 bb (ob + j) hwb).trans (HB.out w1 hE1.out j hjl)
      have za := HA.out w1 hE1.out j hjl
      have zb := HB.out w1 hE1.out j hjl
      have hm8 : k + 1 ≤ maxLen := by unfold maxLen; omega
      have hb8 : (k + 1) * 8 ≤ 140737488355328 := by omega
      have e1 : IntKind.i64.wrap ((L : Int) - 1) = (L : Int) - 1 := IntWalk.i64_in _ (by omega)
      go_wp2_with fail
      go_region_held3 (fun w' => w'.cell? ⟨w.heap.size + 1, 0, none⟩ = some (.slice (some ⟨ba, oa, none⟩) L ca) ∧ w'.cell? ⟨w.heap.size + 1, 1, none⟩ = some (.slice (some ⟨bb, ob, none⟩) L cb) ∧ w'.cell? ⟨ba, oa + j, none⟩ = some (I (f j)) ∧ w'.cell? ⟨bb, ob + j, none⟩ = some (I (g j)))
        (first
          | go_keep
          | (refine keepS hws hwa hwb x0 x1 za zb ?_; repeat (first | exact Ext.refl _ | assumption | refine Ext.trans ?_ (Ext.alloc _ _) | refine Ext.trans ?_ (Ext.drew _))))
        (first
          | (refine step_append_lies _ (by rfl) (.tmp 48) (.tmp 57) 62 (by rfl) w1.heap.size 3 i0 _ 1 8 Try.underlying62 hi0 hz0 hz1 hz2 rfl (by omega) u8 k (revL f L k) (by rfl) (by first | exact ((hva.alloc _).drew) | exact (((hva.alloc _).alloc _).drew))
              _ 1 1 [I (f j)] (by rfl) (by rfl) (by refine newsS ?_; go_simp) (by simp [Value.oneCell']) (by omega) hm8 hb8 (by have := hb.size; simp; omega) _ (by rfl) ?_
             intro ga cA wa howna hgrowa hata hlta
             have hbA : Ext w1 wa := grownS (by repeat (first | exact Ext.refl _ | assumption | refine Ext.trans ?_ (Ext.alloc _ _) | refine Ext.trans ?_ (Ext.drew _))) hgrowa hva.lt
             have hvbA : wa.ownsRow w1.heap.size 3 1 u9 k (revL g L k) := World.ownsRow.kept (by first | exact ((hvb.alloc _).drew) | exact (((hvb.alloc _).alloc _).drew)) hgrowa (hne2 hne.out))
          | (refine step_append_lies _ (by rfl) (.tmp 59) (.tmp 68) 62 (by rfl) w1.heap.size 3 i0 _ 1 8 Try.underlying62 hi0 hz0 hz1 hz2 rfl (by omega) u9 k (revL g L k) (by rfl) (by first | exact hvbA | exact (hvbA.alloc _))
              _ 1 1 [I (g j)] (by rfl) (by rfl) (by refine newsS ?_; first | (go_simp; done) | exact World.grownBy.cell hgrowa (by go_simp) (newB hva.lt (by simp))) (by simp [Value.oneCell']) (by omega) hm8 hb8 (by have := hbA.size; simp; omega) _ (by rfl) ?_
             intro gb cB wb hownb hgrowb hatb hltb
             have hbB : Ext w1 wb := grownS (by repeat (first | exact Ext.refl _ | assumption | refine Ext.trans ?_ (Ext.alloc _ _) | refine Ext.trans ?_ (Ext.drew _))) hgrowb hvbA.lt))
      all_goals
        have dA : some ga ≠ u9.ownBlock := distS hne.out hata hvb.lt (by simp <;> omega)
        have dB : some ga ≠ some gb := distB dA hatb hlta (by simp <;> omega)
        have rA : wb.ownsRow w1.heap.size 3 1 (.slice (some ⟨ga, 0, none⟩) (k + 1) cA) (k + 1) (revL f L (k + 1)) := by
          rw [revL_succ, ← HJ.out]; exact World.ownsRow.kept (by first | exact howna | exact howna.alloc _) hgrowb (.inr dA)
        have rB : wb.ownsRow w1.heap.size 3 1 (.slice (some ⟨gb, 0, none⟩) (k + 1) cB) (k + 1) (revL g L (k + 1)) := by
          rw [revL_succ, ← HJ.out]; exact hownb
        have dH : Hid ((Value.slice (some ⟨ga, 0, none⟩) (k + 1) cA).ownBlock = none ∨ (Value.slice (some ⟨ga, 0, none⟩) (k + 1) cA).ownBlock ≠ (Value.slice (some ⟨gb, 0, none⟩) (k + 1) cB).ownBlock) := .inr dB
        clear howna hownb hgrowa hgrowb hvbA hbA hata hatb hva hvb hne
        go_wp2_with fail
        go_roundw
        case rel => exact ⟨hbB, k + 1, by omega, by go_num, rA, rB, dH⟩
        case measure => simp [intOf]; omega
    · have hkL : k = L := by omega
      have HE := Lib.hid hb
      obtain ⟨hc, hf⟩ := hb.old
      obtain ⟨gA, cA, rfl, hgA, cellA⟩ := ownS hva (by omega)
      obtain ⟨gB, cB, rfl, hgB, cellB⟩ := ownS hvb (by omega)
      clear hva hvb hne
      have fa : Hid (∀ w', Ext wr w' → ∀ i, i < k → w'.cell? ⟨gA, 0 + i, none⟩ = some (I (f (k - 1 - i)))) := fun w' hw' i hi => by
        have := cellA i _ (by rw [← hkL]; exact revL_get f k k i hi)
        exact (hw'.old.1 gA (0 + i) hgA).trans this
      have fb : Hid (∀ w', Ext wr w' → ∀ i, i < k → w'.cell? ⟨gB, 0 + i, none⟩ = some (I (g (k - 1 - i)))) := fun w' hw' i hi => by
        have := cellB i _ (by rw [← hkL]; exact revL_get g k k i hi)
        exact (hw'.old.1 gB (0 + i) hgB).trans this
      clear cellA cellB
      have HA' : Hid (∀ w', Ext wr w' → ∀ i, i < k → w'.cell? ⟨ba, oa + i, none⟩ = some (I (f i))) := fun w' hw' i hi => HA.out w' (hE1.out.trans (HE.out.trans hw')) i (by omega)
      have HB' : Hid (∀ w', Ext wr w' → ∀ i, i < k → w'.cell? ⟨bb, ob + i, none⟩ = some (I (g i))) := fun w' hw' i hi => HB.out w' (hE1.out.trans (HE.out.trans hw')) i (by omega)
      have q1 : w1.cell? ⟨ba, oa, none⟩ = some (I (f 0)) := HA.out w1 hE1.out 0 (by omega)
      have q2 : w1.cell? ⟨bb, ob, none⟩ = some (I (g 0)) := HB.out w1 hE1.out 0 (by omega)
      have HK := Lib.hid hkL
      subst hkL
      obtain ⟨R, hR⟩ : ∃ R, dotF b s n m f g k = R := ⟨_, rfl⟩
      have hQ : dotF b s n m (fun i => g (k - 1 - i)) (fun i => f (k - 1 - i)) k = R := by rw [dot_swap, dot_rev, hR]
      obtain ⟨M, hM⟩ : ∃ M, mulF b s (f 0) (g 0) n m = M := ⟨_, rfl⟩
      have hD1 : dotF b s n m f g 1 = M := by rw [dot_one, hM]
      have hba : ba < wr.heap.size := Nat.lt_of_lt_of_le hwa HE.out.size
      have hbb : bb < wr.heap.size := Nat.lt_of_lt_of_le hwb HE.out.size
      have hk1 : k ≤ 256 := by omega
      go_wp2_with fail
      refine (dot_any b s n m f g k hk1 _ ba oa ca bb ob cb hba hbb (HA'.out _ (Ext.refl _)) (HB'.out _ (Ext.refl _))).mono ?_
      rintro e w2 ⟨rfl, hb2⟩
      have HX2 := Lib.hid hb2
      replace hb := Ext.trans hb hb2; clear hb2 hc hf; obtain ⟨hc, hf⟩ := hb.old
      go_wp2_with fail
      refine (dot_any b s n m _ _ k hk1 _ gB 0 cB gA 0 cA (Nat.lt_of_lt_of_le hgB HX2.out.size) (Nat.lt_of_lt_of_le hgA HX2.out.size) (fb.out _ HX2.out) (fa.out _ HX2.out)).mono ?_
      rintro e w3 ⟨rfl, hb2⟩
      have HX3 := Lib.hid (HX2.out.trans hb2)
      replace hb := Ext.trans hb hb2; clear hb2 hc hf; obtain ⟨hc, hf⟩ := hb.old
      go_wp2_with (first | (go_at_call 18; refine (num_any _ _).mono ?_; rintro e w1 ⟨rfl, hb1⟩; (first | replace hb := Ext.trans hb hb1 | replace hb := Ext.trans (Ext.trans hb (Ext.drewN _ _)) hb1 | replace hb := Ext.trans (Ext.trans hb (Ext.alloc _ _)) hb1 | have hb := hb1); clear hb1; obtain ⟨hc1, hf1⟩ := hb.old))
      have l1 : (1 : Int) ≤ (ca : Int) := by omega
      have l2 : (1 : Int) ≤ (cb : Int) := by omega
      have hL := fun (x : Later _) => (Ext.trans hb x.ext).old.1
      refine wp_region_later (by kernel_rfl) (by kernel_rfl) ?_
      repeat (go_big_quiet_step (((go_at_call 36; exact Calls.later (dot_any b s n m f g 1 (by decide) _ ba oa ca bb ob cb (Nat.lt_of_lt_of_le hwa (Ext.trans hb (Later.ext _)).size) (Nat.lt_of_lt_of_le hwb (Ext.trans hb (Later.ext _)).size) (fun i hi => HA.out _ (hE1.out.trans (Ext.trans hb (Later.ext _))) i (by omega)) (fun i hi => HB.out _ (hE1.out.trans (Ext.trans hb (Later.ext _))) i (by omega)))))))
      refine wpQuiet_nil ?_
      intro w2 hw2
      replace hb := Ext.trans hb (Later.of hw2)
      clear hw2 hL
      obtain ⟨hc, hf⟩ := hb.old
      have l3 : 0 < k := by omega
      have l4 : (0 : Int) < (k : Int) := by omega
      go_wp2_with fail
      have hL := fun (x : Later _) => (Ext.trans hb x.ext).old.1
      refine wp_region_later (by kernel_rfl) (by kernel_rfl) ?_
      repeat (go_big_quiet_step (((go_at_call 29; exact Calls.later (mul_any _ _ _ _ _ _ _)))))
      refine wpQuiet_nil ?_
      intro w2 hw2
      replace hb := Ext.trans hb (Later.of hw2)
      clear hw2 hL
      obtain ⟨hc, hf⟩ := hb.old
      go_wp2_with (first | (go_at_call 18; refine (num_any _ _).mono ?_; rintro e w1 ⟨rfl, hb1⟩; (first | replace hb := Ext.trans hb hb1 | replace hb := Ext.trans (Ext.trans hb (Ext.drewN _ _)) hb1 | replace hb := Ext.trans (Ext.trans hb (Ext.alloc _ _)) hb1 | have hb := hb1); clear hb1; obtain ⟨hc1, hf1⟩ := hb.old))
      go_ret
      exact ⟨by simp, hE1.out.trans hb⟩

end Go.Proofs.Ytfllhbebackbdaa
