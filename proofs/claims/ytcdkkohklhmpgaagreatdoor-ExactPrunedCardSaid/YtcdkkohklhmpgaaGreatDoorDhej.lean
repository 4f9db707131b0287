/- The law DiagramDepends: it returns true. -/
import Derived.Test.YtcdkkohklhmpgaaGreatDoorDhac
namespace Go.Proofs.YtcdkkohklhmpgaaGreatDoor

/-! ### Dhe -/
section
open Go Go.RowKit

theorem mkL_get {n x : Nat} {p : Nat → Bool} (hx : x < n) (hp : p x = true) : (mkL n p)[cnt x p]? = some x := by
  induction n with
  | zero => omega
  | succ n ih =>
    show (mkL n p ++ if p n = true then [n] else [])[cnt x p]? = some x
    by_cases e : x = n
    · subst e
      rw [if_pos hp, List.getElem?_append_right (by rw [mkL_len]; exact Nat.le_refl _), mkL_len]; simp
    · have h := ih (by omega)
      rw [List.getElem?_append_left ?_]
      · exact h
      · rcases Nat.lt_or_ge (cnt x p) (mkL n p).length with a | a
        · exact a
        · rw [List.getElem?_eq_none a] at h; cases h
/-- What a block uses: itself, and what its sources use. -/
theorem use_rec {D : Dia} {i : Nat} (hi : i < D.nb) (x : Nat) : useR D i x = true ↔ x = i ∨ ∃ j, j < (nxD D false).nn i ∧ useR D (sr D i j) x = true := by
  have H := rch_is D.nb (nxD D false) (fun k => k == i)
  constructor
  · intro h
    classical
    have hT := H.least (fun y => decide (y = i ∨ ∃ j, j < (nxD D false).nn i ∧ useR D (sr D i j) y = true)) (fun y hy ht j hj => by
      rcases of_decide_eq_true ht with rfl | ⟨j', hj', hu⟩
      · exact decide_eq_true (.inr ⟨j, hj, (rch_is D.nb (nxD D false) (fun k => k == sr D y j)).stt _ (by show (sr D y j == sr D y j) = true; simp)⟩)
      · exact decide_eq_true (.inr ⟨j', hj', (rch_is D.nb (nxD D false) (fun k => k == sr D i j')).clo y hy hu j hj⟩)) (fun y hy => decide_eq_true (.inl (by simpa using hy))) x h
    exact of_decide_eq_true hT
  · rintro (rfl | ⟨j, hj, hu⟩)
    · exact H.stt _ (by simp)
    · exact (rch_is D.nb (nxD D false) (fun k => k == sr D i j)).least (useR D i) H.clo (fun k hk => by
        have : k = sr D i j := by simpa using hk
        subst this
        exact H.clo i hi (H.stt i (by simp)) j hj) x hu
/-- Marks in a row that is newer than W5. -/
structure DpM (W5 w : World) (gm nb : Nat) (M : Nat → Bool) : Prop where
  ext : Ext W5 w
  old : W5.heap.size ≤ gm
  row : w.rowIs gm 4 nb (fun i => .bool (M i))
theorem DpM.to {W5 w w' : World} {gm nb : Nat} {M : Nat → Bool} (h : DpM W5 w gm nb M) (e : Ext w w') : DpM W5 w' gm nb M := ⟨h.ext.trans e, h.old, h.row.ext e⟩
theorem DpM.put {W5 w : World} {gm nb : Nat} {M : Nat → Bool} (h : DpM W5 w gm nb M) (x : Nat) : DpM W5 (w.setCell ⟨gm, x, none⟩ (.bool true)) gm nb (fun i => if i = x then true else M i) :=
  ⟨h.ext.set h.old _, h.old, (h.row.set x (.bool true)).congr fun i _ => by by_cases q : i = x <;> simp [q]⟩
theorem set_gr (w : World) (gm x : Nat) (v : Value) : w.grownBy (w.setCell ⟨gm, x, none⟩ v) (some gm) := ⟨rfl, rfl, rfl, by simp, fun k _ hk => Below.heap_setCell _ _ _ k (fun q => hk (by simp [q]))⟩

end

/-! ### Dhj -/
section
open Go Go.RowKit

/-- Each place of the order holds the least block that is ready there. -/
def OrdG (D : Dia) (L : List Nat) : Prop := ∀ k, k < L.length → fstI D.nb (rdy D (inL (L.take k))) = ((L.getD k 0 : Nat) : Int)
theorem getD_app_l {L K : List Nat} {k : Nat} (h : k < L.length) : (L ++ K).getD k 0 = L.getD k 0 := by
  rw [List.getD_eq_getElem?_getD, List.getD_eq_getElem?_getD, List.getElem?_append_left h]
theorem ord_g (D : Dia) : OrdG D (ordL D) := by
  have : ∀ n L, OrdG D L → OrdG D (ordF D n L) := by
    intro n
    induction n with
    | zero => intro L h; exact h
    | succ n ih =>
      intro L h
      unfold ordF
      rcases fstI_cases D.nb (rdy D (inL L)) with ⟨h1, _⟩ | ⟨j, h1, h2, h3, _⟩
      · rw [h1, if_pos (by omega)]; exact h
      · rw [h2, if_neg (by omega)]
        refine ih _ fun k hk => ?_
        rw [Int.toNat_natCast] at hk ⊢
        rw [List.length_append, List.length_singleton] at hk
        by_cases e : k = L.length
        · subst e
          rw [List.take_left, h2, List.getD_eq_getElem?_getD, List.getElem?_append_right (Nat.le_refl _)]
          simp
        · have hk' : k < L.length := by omega
          rw [List.take_append_of_le_length (by omega), getD_app_l hk']; exact h k hk'
  exact this _ _ fun k hk => by cases hk
theorem ord_rdy {D : Dia} {k : Nat} (hk : k < (ordL D).length) : (ordL D).getD k 0 < D.nb ∧ rdy D (inL ((ordL D).take k)) ((ordL D).getD k 0) = true ∧ ∀ i, i < (ordL D).getD k 0 → rdy D (inL ((ordL D).take k)) i = false := by
  have h := ord_g D k hk
  rcases fstI_cases D.nb (rdy D (inL ((ordL D).take k))) with ⟨h1, _⟩ | ⟨j, h1, h2, h3, h4⟩
  · rw [h1] at h; omega
  · rw [h2] at h
    have e : j = (ordL D).getD k 0 := by omega
    subst e; exact ⟨h1, h3, h4⟩
theorem inL_take {L : List Nat} {k x : Nat} : inL (L.take k) x = true ↔ ∃ m, m < k ∧ m < L.length ∧ L.getD m 0 = x := by
  rw [inL_iff, List.mem_iff_getElem]
  constructor
  · rintro ⟨m, hm, e⟩
    rw [List.length_take] at hm
    refine ⟨m, by omega, by omega, ?_⟩
    rw [List.getElem_take] at e
    rw [List.getD_eq_getElem?_getD, List.getElem?_eq_getElem (by omega)]; exact e
  · rintro ⟨m, h1, h2, e⟩
    refine ⟨m, by rw [List.length_take]; omega, ?_⟩
    rw [List.getElem_take]
    rw [List.getD_eq_getElem?_getD, List.getElem?_eq_getElem h2] at e; exact e
theorem rdy_iff {D : Dia} {P : Nat → Bool} {i : Nat} : rdy D P i = true ↔ P i = false ∧ isD D i = false ∧ ∀ j, j < ns D i → P (sr D i j) = true ∨ isD D (sr D i j) = true := by
  unfold rdy
  rw [Bool.and_eq_true, Bool.and_eq_true, allN_iff, Bool.not_eq_true', Bool.not_eq_true']
  constructor
  · rintro ⟨⟨a, b⟩, c⟩; exact ⟨a, b, fun j hj => by have := c j hj; rw [Bool.or_eq_true] at this; exact this⟩
  · rintro ⟨a, b, c⟩; exact ⟨⟨a, b⟩, fun j hj => by rw [Bool.or_eq_true]; exact c j hj⟩
/-- The place of i in the order, or -1. -/
def posP (D : Dia) (i : Nat) : Int := fstI (ordL D).length (fun m => (ordL D).getD m 0 == i)
theorem posP_no {D : Dia} {i : Nat} (h : isD D i = true) : posP D i = -1 := fstI_none fun m hm => by
  have := (rdy_iff.1 (ord_rdy hm).2.1).2.1
  rw [beq_eq_false_iff_ne]
  intro e; rw [e, h] at this; cases this
theorem ord_in {D : Dia} (ok : OkD D) {i : Nat} (hi : i < D.nb) (h : isD D i = false) : inL (ordL D) i = true := by
  have o := (ord_end D).1
  have hl := o.len
  have hc := ok.cyc
  unfold delL at hc
  rw [mkL_len] at hc
  cases q : inL (ordL D) i with
  | true => rfl
  | false =>
    have := cnt_eq (n := D.nb) (p := isD D) (q := fun i => !inL (ordL D) i) (fun k _ hk => by
      cases q : inL (ordL D) k with
      | false => rfl
      | true => rw [(o.lt k q).2] at hk; cases hk) (by omega) i hi (by simp [q])
    rw [h] at this; cases this
theorem posP_yes {D : Dia} (ok : OkD D) {i : Nat} (hi : i < D.nb) (h : isD D i = false) : ∃ k : Nat, k < (ordL D).length ∧ posP D i = k ∧ (ordL D).getD k 0 = i ∧ (∀ m, m < k → (ordL D).getD m 0 ≠ i) ∧ ∀ m, m < (ordL D).length → k < m → (ordL D).getD m 0 ≠ i := by
  have hin := inL_iff.1 (ord_in ok hi h)
  obtain ⟨m0, hm0, e0⟩ := List.mem_iff_getElem.1 hin
  unfold posP
  rcases fstI_cases (ordL D).length (fun m => (ordL D).getD m 0 == i) with ⟨_, hn⟩ | ⟨k, h1, h2, h3, h4⟩
  · have := hn m0 hm0
    rw [List.getD_eq_getElem?_getD, List.getElem?_eq_getElem hm0] at this
    simp [e0] at this
  · have e : (ordL D).getD k 0 = i := by simpa using h3
    refine ⟨k, h1, h2, e, fun m hm => by simpa using h4 m hm, fun m hm hkm e2 => ?_⟩
    have hr := (rdy_iff.1 (ord_rdy hm).2.1).1
    rw [e2, inL_take.2 ⟨k, hkm, h1, e⟩] at hr; cases hr
theorem posP_src {D : Dia} (ok : OkD D) {i j : Nat} {k : Nat} (hi : i < D.nb) (hj : j < ns D i) (hs : isD D (sr D i j) = false) (hk : k < (ordL D).length) (e : (ordL D).getD k 0 = i) : posP D (sr D i j) < k := by
  have hr := (rdy_iff.1 (ord_rdy hk).2.1).2.2 j (by rw [e]; exact hj)
  rw [e] at hr
  rcases hr with a | a
  · obtain ⟨m, h1, h2, h3⟩ := inL_take.1 a
    obtain ⟨k2, _, g2, _, g4, _⟩ := posP_yes ok (ok.toWF.src hi hj).2.1 hs
    rw [g2]
    rcases Nat.lt_or_ge k2 k with q | q
    · omega
    · exact absurd h3 (g4 m (by omega))
  · rw [hs] at a; cases a
/-- The place of the last of the first j arguments. -/
def lstP (D : Dia) (i : Nat) : Nat → Int
  | 0 => -1
  | j + 1 => if isD D (sr D i j) = true then lstP D i j else max (lstP D i j) (posP D (sr D i j))
theorem lstP_t {D : Dia} {i j : Nat} (h : isD D (sr D i j) = true) : lstP D i (j + 1) = lstP D i j := if_pos h
theorem lstP_f {D : Dia} {i j : Nat} (h : isD D (sr D i j) = false) : lstP D i (j + 1) = max (lstP D i j) (posP D (sr D i j)) := if_neg (by rw [h]; decide)
theorem lstP_ge {D : Dia} (i j : Nat) : -1 ≤ lstP D i j := by
  induction j with
  | zero => exact Int.le_refl _
  | succ j ih => show -1 ≤ if isD D (sr D i j) = true then lstP D i j else max (lstP D i j) (posP D (sr D i j)); split <;> omega
theorem lstP_lt {D : Dia} (ok : OkD D) {i k : Nat} (hi : i < D.nb) (hk : k < (ordL D).length) (e : (ordL D).getD k 0 = i) (j : Nat) (hj : j ≤ ns D i) : lstP D i j < k := by
  induction j with
  | zero => show (-1 : Int) < k; omega
  | succ j ih =>
    have := ih (by omega)
    cases q : isD D (sr D i j) with
    | true => rw [lstP_t q]; exact this
    | false => rw [lstP_f q]; have := posP_src ok hi (by omega) q hk e; omega
theorem lstP_up {D : Dia} {i j m : Nat} (hj : j < m) (h : isD D (sr D i j) = false) : posP D (sr D i j) ≤ lstP D i m := by
  induction m with
  | zero => omega
  | succ m ih =>
    by_cases e : j = m
    · subst e; rw [lstP_f h]; omega
    · have := ih (by omega)
      cases q : isD D (sr D i m) with
      | true => rw [lstP_t q]; exact this
      | false => rw [lstP_f q]; omega
/-- Behind its last argument no greater block stands ahead of i. -/
theorem ord_least {D : Dia} (ok : OkD D) {i k t : Nat} (hi : i < D.nb) (hd : isD D i = false) (hk : posP D i = k) (h1 : lstP D i (ns D i) < t) (h2 : t < k) (h3 : k < (ordL D).length) : (ordL D).getD t 0 ≤ i := by
  obtain ⟨k', _, g1, _, g3, _⟩ := posP_yes ok hi hd
  have e : k' = k := by omega
  subst e
  have ht : t < (ordL D).length := by omega
  obtain ⟨_, _, hl⟩ := ord_rdy ht
  rcases Nat.lt_or_ge i ((ordL D).getD t 0) with q | q
  · have hr := hl i q
    rw [rdy_iff.2 ⟨?_, hd, fun j hj => ?_⟩] at hr
    · cases hr
    · cases q2 : inL ((ordL D).take t) i with
      | false => rfl
      | true =>
        obtain ⟨m, m1, _, m3⟩ := inL_take.1 q2
        exact absurd m3 (g3 m (by omega))
    · cases q2 : isD D (sr D i j) with
      | true => exact .inr rfl
      | false =>
        left
        obtain ⟨m, m1, m2, m3, _⟩ := posP_yes ok (ok.toWF.src hi hj).2.1 q2
        have := lstP_up hj q2
        exact inL_take.2 ⟨m, by omega, m1, m3⟩
  · exact q

theorem OwL.cap {w : World} {base c : Nat} {A : Option Addr} {L : List Nat} (h : OwL w base A c L) : L.length ≤ c ∧ c ≤ maxLen := by
  obtain ⟨hl, ⟨e, h0⟩ | ⟨g, cap, cur, e, _, _, h3, h4, _⟩⟩ := h
  · injection e with e1 e2 e3; subst e3; exact ⟨by omega, Nat.zero_le _⟩
  · injection e with e1 e2 e3
    subst e3; exact ⟨by omega, h4⟩
end

end Go.Proofs.YtcdkkohklhmpgaaGreatDoor
