/- Pruned diagrams: what they are in the old numbers; accepted; wholly kept. -/
import Derived.Test.YtcdkkohklhmpgaaGreatDoorPrr
import Derived.Test.YtcdkkohklhmpgaaGreatDoorDhej
namespace Go.Proofs.YtcdkkohklhmpgaaGreatDoor
open Go Go.RowKit

noncomputable def prK (D : Dia) : Dia := prD D (keepP D)
/-- The old number of a block. -/
noncomputable def oldK (D : Dia) (k : Nat) : Nat := (mkL D.nb (keepP D)).getD k 0
theorem prK_nb (D : Dia) : (prK D).nb = (mkL D.nb (keepP D)).length := rfl
theorem oldK_at {D : Dia} {k : Nat} (h : k < (prK D).nb) : oldK D k < D.nb ∧ keepP D (oldK D k) = true ∧ cnt (oldK D k) (keepP D) = k := mkL_plc h
theorem oldK_cnt {D : Dia} {i : Nat} (hi : i < D.nb) (hp : keepP D i = true) : cnt i (keepP D) < (prK D).nb ∧ oldK D (cnt i (keepP D)) = i := by
  have h := mkL_at hi hp
  obtain ⟨hl, e⟩ := List.getElem?_eq_some_iff.1 h
  exact ⟨hl, by unfold oldK; rw [List.getD_eq_getElem?_getD, h]; rfl⟩
theorem prK_k (D : Dia) (k : Nat) : ((prK D).B k).k = (D.B (oldK D k)).k ∧ ((prK D).B k).n = (D.B (oldK D k)).n ∧ ((prK D).B k).vn = (D.B (oldK D k)).vn ∧ ((prK D).B k).ve = (D.B (oldK D k)).ve ∧ ((prK D).B k).un = (D.B (oldK D k)).un ∧ ((prK D).B k).ue = (D.B (oldK D k)).ue := pbk_k D _ _
theorem prK_isD (D : Dia) (k : Nat) : isD (prK D) k = isD D (oldK D k) := by unfold isD; rw [(prK_k D k).1]
theorem prK_ns (D : Dia) (k : Nat) : ns (prK D) k = ns D (oldK D k) := by unfold ns; rw [(prK_k D k).1, (prK_k D k).2.1]
theorem prK_a {D : Dia} {k j : Nat} (h0 : (D.B (oldK D k)).k ≠ 0) : ((prK D).B k).a j = (cnt (sr D (oldK D k) j) (keepP D) : Nat) := by
  show (pbk D (keepP D) (oldK D k)).a j = _
  unfold pbk; rw [if_neg h0]; rfl
theorem prK_a0 {D : Dia} {k j : Nat} (h0 : (D.B (oldK D k)).k = 0) : ((prK D).B k).a j = (D.B (oldK D k)).a j := by
  show (pbk D (keepP D) (oldK D k)).a j = _
  unfold pbk; rw [if_pos h0]
theorem prK_src {D : Dia} (wf : WF D) {k j : Nat} (hk : k < (prK D).nb) (hj : j < ns D (oldK D k)) :
    keepP D (sr D (oldK D k) j) = true ∧ sr D (oldK D k) j < D.nb ∧ oldK D (sr (prK D) k j) = sr D (oldK D k) j ∧ sr (prK D) k j < (prK D).nb ∧ sr (prK D) k j = cnt (sr D (oldK D k) j) (keepP D) := by
  obtain ⟨p1, p2, p3⟩ := oldK_at hk
  have h0 : (D.B (oldK D k)).k ≠ 0 := fun h => by unfold ns at hj; rw [if_pos h] at hj; omega
  have hj' : j < (D.B (oldK D k)).n := by unfold ns at hj; rw [if_neg h0] at hj; exact hj
  have h1 : keepP D (sr D (oldK D k) j) = true := keep_arg p1 p2 h0 hj'
  have h2 := (wf.src p1 hj).2.1
  have h3 : sr (prK D) k j = cnt (sr D (oldK D k) j) (keepP D) := by
    conv => lhs; unfold sr
    rw [prK_a h0]; simp
  have h4 := oldK_cnt h2 h1
  exact ⟨h1, h2, by rw [h3]; exact h4.2, by rw [h3]; exact h4.1, h3⟩

theorem prK_in {D : Dia} (ok : OkD D) (m : Nat) : ∀ k, k < (prK D).nb → isD (prK D) k = false → posP D (oldK D k) = (m : Int) → inL (ordL (prK D)) k = true := by
  induction m using Nat.strongRecOn with
  | ind m ih =>
    intro k hk hd hp
    cases q : inL (ordL (prK D)) k with
    | true => rfl
    | false =>
      exfalso
      obtain ⟨_, he⟩ := ord_end (prK D)
      have hr : rdy (prK D) (inL (ordL (prK D))) k = true := rdy_iff.2 ⟨q, hd, fun j hj => by
        rw [prK_ns] at hj
        obtain ⟨s1, s2, s3, s4, _⟩ := prK_src ok.toWF hk hj
        cases q2 : isD (prK D) (sr (prK D) k j) with
        | true => exact .inr rfl
        | false =>
          left
          have hs : isD D (sr D (oldK D k) j) = false := by rw [prK_isD, s3] at q2; exact q2
          obtain ⟨t, t1, t2, t3, _⟩ := posP_yes ok (oldK_at hk).1 (by rw [← prK_isD]; exact hd)
          have hlt := posP_src ok (oldK_at hk).1 hj hs t1 t3
          obtain ⟨u, u1, u2, _⟩ := posP_yes ok s2 hs
          exact ih u (by omega) _ s4 q2 (by rw [s3]; exact u2)⟩
      rcases fstI_cases (prK D).nb (rdy (prK D) (inL (ordL (prK D)))) with ⟨_, h2⟩ | ⟨j, _, h2, _, _⟩
      · rw [h2 k hk] at hr; cases hr
      · rw [h2] at he; omega

theorem blkE_same {D D' : Dia} {b b' : Blk} (hk : b'.k = b.k) (hn : b'.n = b.n) (h1 : b'.vn = b.vn) (h2 : b'.ve = b.ve) (h3 : b'.un = b.un) (h4 : b'.ue = b.ue) (ha : ∀ j, j < b.n → inE (cntB D' b') (b'.a j) = 0) (h : blkE D b = 0) : blkE D' b' = 0 := by
  have q := blkE_zero h
  have e : fstE b.n (fun i => inE (cntB D b) (b.a i)) = 0 := fstE_none fun i hi => if_pos (q.2.2.2 i hi)
  have e' : fstE b'.n (fun i => inE (cntB D' b') (b'.a i)) = 0 := fstE_none fun i hi => ha i (by rw [← hn]; exact hi)
  unfold blkE at h ⊢
  rw [e'] ; rw [e] at h
  rw [hk, hn, h1, h2, h3, h4]
  exact h

theorem prK_ok {D : Dia} (ok : OkD D) : OkD (prK D) := by
  have hbe : ∀ i, i < (prK D).nb → blkE (prK D) ((prK D).B i) = 0 := fun i hi => by
    obtain ⟨p1, p2, p3⟩ := oldK_at hi
    have hb := ok.be _ p1
    obtain ⟨a1, a2, a3, a4, a5, a6⟩ := prK_k D i
    refine blkE_same a1 a2 a3 a4 a5 a6 (fun j hj => ?_) hb
    have ha := (blkE_zero hb).2.2.2 j hj
    unfold cntB at ha ⊢; rw [a1]
    by_cases h0 : (D.B (oldK D i)).k = 0
    · rw [if_pos h0] at ha ⊢; rw [prK_a0 h0]; exact if_pos ha
    · rw [if_neg h0] at ha ⊢
      have hj' : j < ns D (oldK D i) := by unfold ns; rw [if_neg h0]; exact hj
      obtain ⟨s1, s2, s3, s4, s5⟩ := prK_src ok.toWF hi hj'
      rw [prK_a h0, ← s5]; exact if_pos ⟨by omega, by omega⟩
  have hnb : (prK D).nb ≤ 64 := by rw [prK_nb, mkL_len]; exact Nat.le_trans (cnt_le _ _) ok.nb
  exact { chk_wf (D := prK D) ok.ni hnb ok.no (fstE_none hbe) with
    be := hbe
    pe := ok.pe
    out := fun j hj => by
      have ho := ok.out j hj
      have hp := keep_out (D := D) hj
      have h := oldK_cnt (D := D) (i := (D.O j).toNat) (by omega) hp
      show 0 ≤ rk (keepP D) D.O j ∧ rk (keepP D) D.O j < _
      unfold rk; exact ⟨by omega, by omega⟩
    cyc := by
      have hi := (ord_end (prK D)).1
      have hl := hi.len
      have h2 : cnt (prK D).nb (fun i => !inL (ordL (prK D)) i) ≤ cnt (prK D).nb (isD (prK D)) := cnt_mono fun i hi hq => by
        cases h : isD (prK D) i with
        | true => rfl
        | false =>
          obtain ⟨t, t1, t2, _⟩ := posP_yes ok (oldK_at hi).1 (by rw [← prK_isD]; exact h)
          rw [prK_in ok t i hi h t2] at hq; cases hq
      have h3 : (delL (prK D)).length = cnt (prK D).nb (isD (prK D)) := mkL_len _ _
      omega }

/-! ### Pruned again -/
theorem keepK {D : Dia} (ok : OkD D) {k : Nat} (hk : k < (prK D).nb) : keepP (prK D) k = true := by
  have okK := prK_ok ok
  have hcl : Clo D.nb (nxD D true) (fun i => keepP D i && (decide (i < D.nb) && keepP (prK D) (cnt i (keepP D)))) := fun i hi ht j hj => by
    simp only [Bool.and_eq_true, decide_eq_true_eq] at ht ⊢
    obtain ⟨t1, _, t3⟩ := ht
    have hj' : j < ns D i := by unfold nxD at hj; simpa using hj
    obtain ⟨c1, c2⟩ := oldK_cnt hi t1
    obtain ⟨s1, s2, s3, s4, s5⟩ := prK_src ok.toWF c1 (by rw [c2]; exact hj')
    rw [c2] at s1 s2 s5
    refine ⟨s1, s2, ?_⟩
    show keepP (prK D) (cnt (sr D i j) (keepP D)) = true
    rw [← s5]
    have hk0 : ((prK D).B (cnt i (keepP D))).k ≠ 0 := fun h => by
      rw [(prK_k D _).1, c2] at h; unfold ns at hj'; rw [if_pos h] at hj'; omega
    refine keep_arg c1 t3 hk0 ?_
    rw [(prK_k D _).2.1, c2]
    unfold ns at hj'; split at hj' <;> omega
  have hst : ∀ i, inL ((List.range D.no).map fun j => (D.O j).toNat) i = true → (keepP D i && (decide (i < D.nb) && keepP (prK D) (cnt i (keepP D)))) = true := fun i hi => by
    rw [inL_iff] at hi
    obtain ⟨j, hj, rfl⟩ := List.mem_map.1 hi
    have hj := List.mem_range.1 hj
    have ho := ok.out j hj
    have hp := keep_out hj
    have hq : keepP (prK D) ((prK D).O j).toNat = true := keep_out (D := prK D) hj
    simp only [Bool.and_eq_true, decide_eq_true_eq]
    refine ⟨hp, by omega, ?_⟩
    have : ((prK D).O j).toNat = cnt (D.O j).toNat (keepP D) := by
      show (rk (keepP D) D.O j).toNat = _
      unfold rk; simp
    rw [← this]; exact hq
  have h := (rch_is D.nb (nxD D true) (inL ((List.range D.no).map fun j => (D.O j).toNat))).least _ hcl hst (oldK D k) (oldK_at hk).2.1
  simp only [Bool.and_eq_true] at h
  rw [(oldK_at hk).2.2] at h
  exact h.2.2
theorem cnt_yes {n : Nat} {P : Nat → Bool} (h : ∀ i, i < n → P i = true) : cnt n P = n := by
  induction n with
  | zero => rfl
  | succ n ih => unfold cnt; rw [ih fun i hi => h i (by omega), if_pos (h n (by omega))]
theorem mkL_yes {n : Nat} {P : Nat → Bool} (h : ∀ i, i < n → P i = true) (k : Nat) (hk : k < n) : (mkL n P).getD k 0 = k := by
  have h1 := mkL_at hk (h k hk)
  rw [cnt_yes fun i hi => h i (by omega)] at h1
  rw [List.getD_eq_getElem?_getD, h1]; rfl
/-- Diagrams that agree as far as they go. -/
structure EqD (D E : Dia) : Prop where
  ni : E.ni = D.ni
  nb : E.nb = D.nb
  no : E.no = D.no
  P : ∀ i, i < D.ni → E.P i = D.P i
  k : ∀ i, i < D.nb → (E.B i).k = (D.B i).k ∧ (E.B i).n = (D.B i).n ∧ (E.B i).vn = (D.B i).vn ∧ (E.B i).ve = (D.B i).ve ∧ (E.B i).un = (D.B i).un ∧ (E.B i).ue = (D.B i).ue
  a : ∀ i, i < D.nb → ∀ j, j < (D.B i).n → (E.B i).a j = (D.B i).a j
  O : ∀ j, j < D.no → E.O j = D.O j
theorem Dm.eqd {w : World} {D E : Dia} {p : Pl} (d : Dm w D p) (h : EqD D E) : Dm w E p where
  ports := fun hn => by
    rw [h.ni] at hn ⊢
    obtain ⟨b, o, h1, hb, hc⟩ := d.ports hn
    exact ⟨b, o, h1, hb, fun i hi => by rw [h.P i hi]; exact hc i hi⟩
  blocks := fun hn => by
    rw [h.nb] at hn ⊢
    obtain ⟨b, o, h1, hb, hc⟩ := d.blocks hn
    exact ⟨b, o, h1, hb, fun i hi => by
      obtain ⟨a1, a2, a3, a4, a5, a6⟩ := h.k i hi
      rw [a1, a2, a3, a4, a5, a6]; exact hc i hi⟩
  args := fun i hi => by
    rw [h.nb] at hi
    rw [(h.k i hi).2.1]
    exact ⟨(d.args i hi).1.congr fun j hj => (h.a i hi j hj).symm, (d.args i hi).2⟩
  outs := by rw [h.no]; exact d.outs.congr fun j hj => (h.O j hj).symm
  li := by rw [h.ni]; exact d.li
  lb := by rw [h.nb]; exact d.lb
  lo := by rw [h.no]; exact d.lo
  nA := fun i hi => by rw [h.nb] at hi; exact d.nA i hi
  nO := d.nO
  nI := d.nI
theorem prKK {D : Dia} (ok : OkD D) : EqD (prK (prK D)) (prK D) := by
  have okK := prK_ok ok
  have hk : ∀ i, i < (prK D).nb → keepP (prK D) i = true := fun i hi => keepK ok hi
  have hnb : (prK (prK D)).nb = (prK D).nb := by rw [prK_nb (prK D), mkL_len, cnt_yes hk]
  have hold : ∀ i, i < (prK D).nb → oldK (prK D) i = i := fun i hi => mkL_yes hk i hi
  have hc : ∀ i, i ≤ (prK D).nb → cnt i (keepP (prK D)) = i := fun i hi => cnt_yes fun j hj => hk j (by omega)
  refine ⟨rfl, hnb.symm, rfl, fun _ _ => rfl, fun i hi => ?_, fun i hi j hj => ?_, fun j hj => ?_⟩
  · have h := prK_k (prK D) i
    rw [hold i (by omega)] at h
    exact ⟨h.1.symm, h.2.1.symm, h.2.2.1.symm, h.2.2.2.1.symm, h.2.2.2.2.1.symm, h.2.2.2.2.2.symm⟩
  · have hi' : i < (prK D).nb := by omega
    have h := prK_k (prK D) i
    rw [hold i hi'] at h
    rw [h.2.1] at hj
    by_cases h0 : ((prK D).B i).k = 0
    · rw [prK_a0 (D := prK D) (by rw [hold i hi']; exact h0), hold i hi']
    · rw [prK_a (D := prK D) (by rw [hold i hi']; exact h0), hold i hi']
      have hs := okK.toWF.src hi' (j := j) (by unfold ns; rw [if_neg h0]; exact hj)
      rw [hc _ (by omega)]; exact hs.1
  · have ho := okK.out j hj
    show (prK D).O j = rk (keepP (prK D)) (prK D).O j
    unfold rk
    rw [hc _ (by omega)]; omega
end Go.Proofs.YtcdkkohklhmpgaaGreatDoor
