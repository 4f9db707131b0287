/- A region's walk where the condition on the world hangs on what has come up: a cell that the region loads first and writes later. -/
import Derived.Test.YtdcollchhcjaaaaNum
import Derived.Deep.RegionHeld3
namespace Go.Proofs.Ytdcollchhcjaaaa
open Go

section
variable {P : Program} {ops : Array Oper} {Q : Exit → Act → World → Prop} {md : Region.Mode} {S : Array Bool → World → Prop}

/-- In whatever order the rest comes up: behind each operation its condition holds. -/
def Gated (P : Program) (md : Region.Mode) (ops : Array Oper) (Q : Exit → Act → World → Prop) (S : Array Bool → World → Prop) : Nat → Array Bool → Act → World → Prop
  | 0 => fun L a w => Region.ready md ops L = [] ∧ Q .normal a w
  | n + 1 => fun L a w => (Region.ready md ops L = [] → Q .normal a w) ∧ ∀ j, j ∈ Region.ready md ops L → wpOp P ops Q j (fun a' w' => S (L.setIfInBounds j true) w' ∧ Gated P md ops Q S n (L.setIfInBounds j true) a' w') a w

theorem Gated.any : ∀ (n : Nat) {L : Array Bool} {a : Act} {w : World}, Gated P md ops Q S n L a w → wpAny P md ops Q n L a w
  | 0, _, _, _, h => h
  | n + 1, _, _, _, h => ⟨h.1, fun j hj => wpOp_mono (fun _ _ h' => h'.2.any n) (h.2 j hj)⟩

/-- What is known as long as number i has not come up. -/
structure Till (md : Region.Mode) (ops : Array Oper) (S : Array Bool → World → Prop) (i : Nat) (T : Array Bool → Prop) (Y : World → Prop) : Prop where
  keep : ∀ L j, T L → L.getD i true = false → j ∈ Region.ready md ops L → j ≠ i → T (L.setIfInBounds j true)
  cond : ∀ L w, T L → S L w → Y w
  same : ∀ L w, S (L.setIfInBounds i true) w ↔ S L w

theorem Gated.first {i : Nat} {o : Oper} {v : Value} {T : Array Bool → Prop} {Y : World → Prop} (ho : ops[i]? = some o) (hsel : ∀ (j : Nat) (o : Oper) cs b, ops[j]? = some o → o.op ≠ .select cs b)
    (hQ : ∀ c a w, Q (.panic c) (a.put o.dst v) w → Q (.panic c) a w) (t : Till md ops S i T Y) (n : Nat) :
    ∀ (L : Array Bool) (a : Act) (w : World), (∀ j oj, ops[j]? = some oj → j ≠ i → L.getD j true = false → (∀ e ∈ oj.after, Region.binds md e = true → e.on ≠ i) → o.apart ops oj = true) →
      i ∈ Region.ready md ops L → T L → YieldsIf P ops Y o v a → S L w → Gated P md ops Q S n (L.setIfInBounds i true) (a.put o.dst v) w → Gated P md ops Q S (n + 1) L a w := by
  induction n with
  | zero =>
    intro L a w _ hr hT hy hS H
    refine ⟨fun h => by simp [h] at hr, fun j hj => ?_⟩
    by_cases e : j = i
    · subst e; exact hy.wpOp ho (t.cond L w hT hS) ⟨(t.same L w).2 hS, H⟩
    · have := ready_mono hj e
      simp [H.1] at this
  | succ n ih =>
    intro L a w hfr hr hT hy hS H
    refine ⟨fun h => by simp [h] at hr, fun j hj => ?_⟩
    by_cases e : j = i
    · subst e; exact hy.wpOp ho (t.cond L w hT hS) ⟨(t.same L w).2 hS, H⟩
    · obtain ⟨un, oj, hoj, hall⟩ := mem_ready.1 hj
      have uni := (mem_ready.1 hr).1
      have wait : ∀ x ∈ oj.after, Region.binds md x = true → x.on ≠ i := fun x hx hb hxi => by
        have h1 := hall x hx hb
        rw [hxi] at h1
        by_cases hs : i < L.size
        · simp [hs] at uni h1; rw [uni] at h1; cases h1
        · simp [Array.getElem?_eq_none (by omega : L.size ≤ i)] at h1
      have h2 := wpOp_putIf hoj (hfr j oj hoj e un wait) (fun cs b => hsel i o cs b ho) (fun cs b => hsel j oj cs b hoj) hQ hy (H.2 j (ready_mono hj e))
      refine wpOp_mono (fun a' w' h3 => ?_) h2
      obtain ⟨y, s', g⟩ := h3
      rw [Array.setIfInBounds_comm _ _ (Ne.symm e)] at s' g
      have sj := (t.same _ w').1 s'
      refine ⟨sj, ih (L.setIfInBounds j true) a' w' (fun k ok hk hki hu hw => hfr k ok hk hki ?_ hw) (ready_mono hr (Ne.symm e)) (t.keep L j hT uni hj e) y sj g⟩
      by_cases hjk : j = k
      · subst hjk; exact un
      · rwa [getD_set_ne true hjk] at hu

theorem Gated.take {i : Nat} {o : Oper} {v : Value} {T : Array Bool → Prop} {Y : World → Prop} {n : Nat} {L : Array Bool} {a : Act} {w : World} (ho : ops[i]? = some o) (hs : Region.noSelect ops = true) (hf : Region.free md ops L i = true)
    (hr : (Region.ready md ops L).contains i = true) (hQ : ∀ c a w, Q (.panic c) (a.put o.dst v) w → Q (.panic c) a w) (t : Till md ops S i T Y) (hT : T L) (hy : YieldsIf P ops Y o v a) (hS : S L w)
    (h : Gated P md ops Q S n (L.setIfInBounds i true) (a.put o.dst v) w) : Gated P md ops Q S (n + 1) L a w :=
  Gated.first ho (Region.noSelect_spec hs) hQ t n L a w (Region.free_spec ho hf) (by simpa using hr) hT hy hS h

/-- What yields in whatever world. -/
theorem Till.free {i : Nat} (same : ∀ L w, S (L.setIfInBounds i true) w ↔ S L w) : Till md ops S i (fun _ => True) (fun _ => True) := ⟨fun _ _ _ _ _ _ => trivial, fun _ _ _ _ => trivial, same⟩
/-- What is known as long as number k, that waits for number i, has not come up. -/
theorem Till.gate {i k : Nat} {ok : Oper} {Y : World → Prop} (hk : ops[k]? = some ok) (hw : (ok.after.any fun x => Region.binds md x && x.on == i) = true) (cond : ∀ L w, L.getD k true = false → S L w → Y w)
    (same : ∀ L w, S (L.setIfInBounds i true) w ↔ S L w) : Till md ops S i (fun L => L.getD k true = false) Y := by
  refine ⟨fun L j hT uni hj _ => ?_, cond, same⟩
  have hne : j ≠ k := by
    rintro rfl
    obtain ⟨_, oj, hoj, hall⟩ := mem_ready.1 hj
    rw [hk] at hoj; cases hoj
    obtain ⟨x, hx, hb⟩ := Array.any_eq_true'.1 hw
    simp only [Bool.and_eq_true, beq_iff_eq] at hb
    have h1 := hall x hx hb.1
    rw [hb.2] at h1
    by_cases hs : i < L.size
    · simp [hs] at uni h1; rw [uni] at h1; cases h1
    · simp [Array.getElem?_eq_none (by omega : L.size ≤ i)] at h1
  rw [getD_set_ne true hne]; exact hT

theorem Gated.done {L : Array Bool} {a : Act} {w : World} {n : Nat} (hr : Region.ready md ops L = []) (h : Q .normal a w) : Gated P md ops Q S n L a w := by
  cases n with
  | zero => exact ⟨hr, h⟩
  | succ n => exact ⟨fun _ => h, fun j hj => by simp [hr] at hj⟩

/-- The next that may come up; the rest of them behind it. -/
def Nexts (P : Program) (md : Region.Mode) (ops : Array Oper) (Q : Exit → Act → World → Prop) (S : Array Bool → World → Prop) (n : Nat) (L : Array Bool) (a : Act) (w : World) (rs : List Nat) : Prop :=
  ∀ j, j ∈ rs → wpOp P ops Q j (fun a' w' => S (L.setIfInBounds j true) w' ∧ Gated P md ops Q S n (L.setIfInBounds j true) a' w') a w
theorem Nexts.nil {n : Nat} {L : Array Bool} {a : Act} {w : World} : Nexts P md ops Q S n L a w [] := fun _ h => by cases h
theorem Nexts.cons {n : Nat} {L : Array Bool} {a : Act} {w : World} {j : Nat} {o : Oper} {rs : List Nat} (ho : ops[j]? = some o)
    (h : ∀ K : Act → World → Prop, Shut (∀ a w, S (L.setIfInBounds j true) w → (S (L.setIfInBounds j true) w → Gated P md ops Q S n (L.setIfInBounds j true) a w) → K a w) → if Region.wanted o (yielded ops a.tmps) = true then Oper.wp P o a w K Q else K (a.put o.dst undef) w)
    (hs : Nexts P md ops Q S n L a w rs) : Nexts P md ops Q S n L a w (j :: rs) := fun k hk => by
  cases List.mem_cons.1 hk with
  | inl e => subst e; exact wpOp_step ho (fun K hK => h K (fun a w hS hW => hK a w ⟨hS, hW hS⟩))
  | inr e => exact hs k e
theorem Gated.next {rs : List Nat} {n : Nat} {L : Array Bool} {a : Act} {w : World} (hr : Region.ready md ops L = rs) (hne : rs ≠ []) (h : Nexts P md ops Q S n L a w rs) : Gated P md ops Q S (n + 1) L a w :=
  ⟨fun e => (hne (hr.symm.trans e)).elim, fun j hj => h j (hr ▸ hj)⟩
theorem Gated.begin {id : Nat} {a : Act} {w : World} (hm : P.follows .mixedOrders = true) (h : Gated P .any ops Q S ops.size (Array.replicate ops.size false) a w.drew) : (Code.region id ops true).wp P Q a w :=
  wp_region_any hm (Gated.any _ h)
end
end Go.Proofs.Ytdcollchhcjaaaa
