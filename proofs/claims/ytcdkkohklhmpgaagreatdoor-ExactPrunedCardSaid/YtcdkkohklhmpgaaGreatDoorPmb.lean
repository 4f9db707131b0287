/- The values of a pruned diagram are those of the diagram. -/
import Derived.Test.YtcdkkohklhmpgaaGreatDoorPma
import Derived.Test.YtcdkkohklhmpgaaGreatDoorEyk
namespace Go.Proofs.YtcdkkohklhmpgaaGreatDoor
open Go Go.RowKit

/-- A state of the pruned diagram has the numbers of a state of the diagram. -/
def StK (D : Dia) (S S' : Nat → DV) : Prop := ∀ k, k < (prK D).nb → isD (prK D) k = true → S' (plc (prK D) k) = S (plc D (oldK D k))
theorem fv_b {b b' : Blk} (hk : b'.k = b.k) (h1 : b'.vn = b.vn) (h2 : b'.ve = b.ve) (h3 : b'.un = b.un) (h4 : b'.ue = b.ue) (x y : DV) : fv b' x y = fv b x y := by
  unfold fv; rw [hk, h1, h2, h3, h4]
theorem bval_K {D : Dia} (ok : OkD D) (IN : Nat → Int) (V : Nat → DV) {k : Nat} (hk : k < (prK D).nb) : bval (prK D) IN (fun i => V (oldK D i)) k = bval D IN V (oldK D k) := by
  obtain ⟨p1, p2, p3⟩ := oldK_at hk
  obtain ⟨a1, a2, a3, a4, a5, a6⟩ := prK_k D k
  unfold bval
  rw [a1]
  by_cases h0 : (D.B (oldK D k)).k = 0
  · rw [if_pos h0, if_pos h0]
    have : sr (prK D) k 0 = sr D (oldK D k) 0 := by unfold sr; rw [prK_a0 h0]
    rw [this]; rfl
  · rw [if_neg h0, if_neg h0, fv_b a1 a3 a4 a5 a6]
    have ha := ok.ar _ p1
    have hn : ns D (oldK D k) = (D.B (oldK D k)).n := by unfold ns; rw [if_neg h0]
    refine fv_congr (fun q => ?_) (fun q => ?_)
    · exact congrArg V (prK_src ok.toWF hk (j := 0) (by omega)).2.2.1
    · exact congrArg V (prK_src ok.toWF hk (j := 1) (by omega)).2.2.1
theorem tk_K {D : Dia} (ok : OkD D) {S S' : Nat → DV} (IN : Nat → Int) (h : StK D S S') {k : Nat} (hk : k < (prK D).nb) : tkV (prK D) S' IN k = tkV D S IN (oldK D k) := by
  refine (tk_uniq (prK_ok ok) S' IN (V := fun i => tkV D S IN (oldK D i)) (fun i hi hd => ?_) (fun i hi hd => ?_) k hk).symm
  · rw [h i hi hd]; exact tk_del S IN (by rw [← prK_isD]; exact hd)
  · rw [bval_K ok IN (tkV D S IN) hi]
    exact tk_eq ok S IN (oldK_at hi).1 (by rw [← prK_isD]; exact hd)
theorem delL_plc {D : Dia} {i : Nat} (hi : i < D.nb) (h : isD D i = true) : (delL D).getD (plc D i) 0 = i := by
  have := mkL_get hi h
  unfold delL plc
  rw [List.getD_eq_getElem?_getD, this]; rfl
theorem ns_del {D : Dia} (wf : WF D) {i : Nat} (hi : i < D.nb) (h : isD D i = true) : ns D i = 1 := by
  have hk : (D.B i).k = 2 := by unfold isD at h; simpa using h
  have := wf.ar i hi
  rw [hk] at this
  unfold ns; rw [if_neg (by omega)]
  unfold arity at this; rw [if_neg (by omega), if_neg (by omega)] at this; omega
theorem nx_K {D : Dia} (ok : OkD D) {S S' : Nat → DV} (IN : Nat → Int) (h : StK D S S') : StK D (nxS D (tkV D S IN)) (nxS (prK D) (tkV (prK D) S' IN)) := fun k hk hd => by
  obtain ⟨p1, p2, p3⟩ := oldK_at hk
  have hd' : isD D (oldK D k) = true := by rw [← prK_isD]; exact hd
  unfold nxS
  rw [delL_plc hk hd, delL_plc p1 hd']
  obtain ⟨s1, s2, s3, s4, s5⟩ := prK_src ok.toWF hk (j := 0) (by rw [ns_del ok.toWF p1 hd']; omega)
  rw [tk_K ok IN h s4, s3]
theorem s0_K (D : Dia) : StK D (s0S D) (s0S (prK D)) := fun k hk hd => by
  obtain ⟨p1, p2, p3⟩ := oldK_at hk
  have hd' : isD D (oldK D k) = true := by rw [← prK_isD]; exact hd
  unfold s0S
  rw [delL_plc hk hd, delL_plc p1 hd', (prK_k D k).2.2.1, (prK_k D k).2.2.2.1]
theorem sq_K {D : Dia} (ok : OkD D) (IN : Nat → Nat → Int) (t : Nat) : StK D (sqS D IN t) (sqS (prK D) IN t) := by
  induction t with
  | zero => exact s0_K D
  | succ t ih => exact nx_K ok (IN t) ih
/-- The outputs are the same. -/
theorem run_K {D : Dia} (ok : OkD D) (IN : Nat → Nat → Int) (t : Nat) {j : Nat} (hj : j < D.no) : runV (prK D) IN t j = runV D IN t j := by
  have ho := ok.out j hj
  have hp := keep_out hj
  obtain ⟨c1, c2⟩ := oldK_cnt (i := (D.O j).toNat) (by omega) hp
  have e : ((prK D).O j).toNat = cnt (D.O j).toNat (keepP D) := by
    show (rk (keepP D) D.O j).toNat = _
    unfold rk; simp
  unfold runV outV
  rw [e, tk_K ok (IN t) (sq_K ok IN t) c1, c2]
/-- An error of the pruned diagram's run is one of the diagram's run. -/
theorem tc_K {D : Dia} (ok : OkD D) (m : Nat → Nat) (IN : Nat → Nat → Int) (t : Nat) (hm : m t = D.ni) (hr : ∀ i, i < D.ni → (D.P i).lo ≤ IN t i ∧ IN t i ≤ (D.P i).hi) :
    (tcE D m IN t = 0 ∨ tcE D m IN t = 4) ∧ (tcE (prK D) m IN t = 0 ∨ tcE (prK D) m IN t = 4) ∧ (tcE D m IN t = 0 → tcE (prK D) m IN t = 0) := by
  have hin : inR D (IN t) = true := allN_iff.2 fun i hi => by
    have := hr i hi
    simp [this.1, this.2]
  have hin' : inR (prK D) (IN t) = true := hin
  have a : ∀ E : Dia, E.ni = D.ni → inR E (IN t) = true → tcE E m IN t = if tkG E (sqS E IN t) (IN t) = false then 4 else 0 := fun E h1 h2 => by
    unfold tcE stE
    rw [if_neg (by simp), if_neg (by rw [allN_true]; decide), if_neg (by rw [hm, h1]; simp), if_neg (by rw [h2]; decide)]
  rw [a D rfl hin, a (prK D) rfl hin']
  refine ⟨by split <;> simp, by split <;> simp, fun h => ?_⟩
  cases hg : tkG D (sqS D IN t) (IN t) with
  | false => rw [if_pos hg] at h; omega
  | true =>
    rw [if_neg]
    have : tkG (prK D) (sqS (prK D) IN t) (IN t) = true := allN_iff.2 fun k hk => by
      rw [tk_K ok (IN t) (sq_K ok IN t) hk]
      exact allN_iff.1 hg _ (oldK_at hk).1
    rw [this]; decide
theorem fstE_04 {n : Nat} {f : Nat → Int} (h : ∀ i, i < n → f i = 0 ∨ f i = 4) : fstE n f = 0 ∨ fstE n f = 4 := by
  induction n with
  | zero => exact .inl rfl
  | succ n ih =>
    unfold fstE
    by_cases e : fstE n f = 0
    · rw [if_pos e]; exact h n (by omega)
    · rw [if_neg e]; exact ih fun i hi => h i (by omega)
theorem runE_K {D : Dia} (ok : OkD D) (n : Nat) (m : Nat → Nat) (IN : Nat → Nat → Int) (hm : ∀ t, t < n → m t = D.ni) (hr : ∀ t, t < n → ∀ i, i < D.ni → (D.P i).lo ≤ IN t i ∧ IN t i ≤ (D.P i).hi) :
    (runE D n m IN = 0 ∨ runE D n m IN = 4) ∧ (runE (prK D) n m IN = 0 ∨ runE (prK D) n m IN = 4) ∧ (runE D n m IN = 0 → runE (prK D) n m IN = 0) := by
  have hk := fun t (ht : t < n) => tc_K ok m IN t (hm t ht) (hr t ht)
  unfold runE
  by_cases h : 256 < n
  · rw [if_pos h, if_pos h]; simp
  · rw [if_neg h, if_neg h]
    refine ⟨fstE_04 fun t ht => (hk t ht).1, fstE_04 fun t ht => (hk t ht).2.1, fun e => fstE_none fun t ht => (hk t ht).2.2 (fstE_zero e t ht)⟩
end Go.Proofs.YtcdkkohklhmpgaaGreatDoor
