/- The law RangesContain: its inputs and its states. -/
import Derived.Test.YtkocmdpfknoiaaaGreatDoorDgef
import Derived.Deep.RegionHeld3
import Derived.Test.YtkocmdpfknoiaaaGreatDoorOwi
namespace Go.Proofs.YtkocmdpfknoiaaaGreatDoor
open Go Go.RowKit

/-- n, moved into its limits. -/
def clq (n lo hi : Int) : Int := if n < lo then lo else if hi < n then hi else n
theorem clq_bd (n lo hi : Int) (h : lo ≤ hi) : lo ≤ clq n lo hi ∧ clq n lo hi ≤ hi := by unfold clq; split <;> (try split) <;> omega
set_option maxHeartbeats 400000 in
theorem clipq_any (n lo hi : Int) (w : World) (hl : lo ≤ hi) : Calls Tryz.prog 58 #[I n, I lo, I hi] w fun e w' => e = .returned (I (clq n lo hi)) ∧ Ext w w' := by
  have H : Hid (max lo (min n hi) = clq n lo hi) := by
    show _ = _; unfold clq
    by_cases h : n < lo
    · rw [if_pos h]; omega
    · rw [if_neg h]
      by_cases h2 : hi < n
      · rw [if_pos h2]; omega
      · rw [if_neg h2]; omega
  clear hl
  go_enter Tryz.func58, Tryz.ntmps58
  go_wp2
  all_goals
    go_ret
    exact ⟨ret_int (by rw [← H.out]; omega), Ext.refl _⟩
/-! ### fit -/
def inpV (D : Dia) (m : Nat) (IN : Nat → Int) : Nat → Int := fun i => clq (if i < m then IN i else 0) (D.P i).lo (D.P i).hi
def InpR (D : Dia) (m : Nat) (IN : Nat → Int) (w : World) (e : Ending) (w' : World) : Prop := ∃ A c, e = .returned (.slice A D.ni c) ∧ OwI w' w.heap.size A c (inpV D m IN) D.ni ∧ Ext w w'
theorem inp_rng {D : Dia} (ok : OkD D) (m : Nat) (IN : Nat → Int) : ∀ j, j < D.ni → (D.P j).lo ≤ inpV D m IN j ∧ inpV D m IN j ≤ (D.P j).hi := fun j hj => clq_bd _ _ _ (by
  have := ok.pe j hj
  unfold prtE at this
  split at this
  · omega
  · omega)
set_option maxRecDepth 100000 in
set_option maxHeartbeats 1000000 in
theorem inputs_any {w : World} {D : Dia} {p : Pl} {Ai : Option Addr} {m ci : Nat} {IN : Nat → Int} (d : Dm w D p) (hni : D.ni ≤ 1000) (hP : ∀ j, j < D.ni → (D.P j).lo ≤ (D.P j).hi) (r : Ri w Ai m IN) (hm : m ≤ maxLen) :
    Calls Tryz.prog 19 #[dgv D p, .slice Ai m ci] w (InpR D m IN w) := by
  unfold maxLen at hm
  obtain ⟨W1, hW1⟩ : ∃ W1, W1 = w.alloc (.cells #[.slice p.AI D.ni p.cI, .slice p.AB D.nb p.cB, .slice p.AO D.no p.cO] 26) := ⟨_, rfl⟩
  have hE : Ext w W1 := by rw [hW1]; exact Ext.alloc _ _
  have hbd : Bd W1 w.heap.size D p := by rw [hW1]; exact Bd.new _ _ _ _
  have HD := Lib.hid (d.ext hE); have HE := Lib.hid hE; have HI := Lib.hid (r.ext hE); have HP := Lib.hid hP
  have hz1 : W1.heap.size = w.heap.size + 1 := by rw [hW1]; simp
  obtain ⟨c0, c1, c2⟩ := hbd
  clear d hE r hP
  go_enter Tryz.func19, Tryz.ntmps19
  go_upto_region 1 with fail
  rw [← hW1]; clear hW1
  go_wp2_with fail
  clear c0 c1 c2
  go_loopw [5, 12] (fun s5 s wr => ∃ (j : Nat) (A : Option Addr) (c : Nat), j ≤ D.ni ∧ s = I j ∧ s5 = .slice A j c ∧ Hid (OwI wr w.heap.size A c (inpV D m IN) j ∧ Ext W1 wr ∧ ∀ k, (Value.slice A j c).ownBlock = some k → W1.heap.size ≤ k)) (fun _ s _ => D.ni - (intOf s).toNat)
  case atStart => exact ⟨0, none, 0, Nat.zero_le _, rfl, rfl, OwI.nil _ _ _, Ext.refl _, fun k hk => by cases hk⟩
  case round =>
    obtain ⟨j, A, c, hj, rfl, rfl, H⟩ := hrel
    by_cases hlt : j < D.ni
    · obtain ⟨bp, op, hp, hbp, hcp⟩ := (HD.out.ext H.out.2.1).ports (by omega)
      obtain ⟨y0, y1, y2⟩ := hcp j hlt
      have hlt' : (j : Int) < (D.ni : Int) := by omega
      have hle := HP.out j hlt
      have hsz := H.out.2.1.size
      obtain ⟨v, hv⟩ : ∃ v, inpV D m IN j = v := ⟨_, rfl⟩
      have HV := Lib.hid hv
      by_cases hjm : j < m
      · obtain ⟨bi, oi, rfl, hbi, hci⟩ := HI.out.ext H.out.2.1 (by omega)
        have xi := hci j hjm
        have hjm' : (j : Int) < (m : Int) := by omega
        have HCL : Hid (∀ w', Calls Tryz.prog 58 #[I (IN j), I (D.P j).lo, I (D.P j).hi] w' fun e w'' => e = .returned (I v) ∧ Ext w' w'') := fun w' => by
          have := clipq_any (IN j) (D.P j).lo (D.P j).hi w' hle
          rw [← hv]; unfold inpV; rw [if_pos hjm]; exact this
        clear hcp hci hv hle
        generalize (D.P j).lo = plo at *
        generalize (D.P j).hi = phi at *
        generalize (D.P j).fr = pfr at *
        generalize IN j = iy at *
        go_wp2_with (first
          | (go_at_call 58; (with_reducible refine (HCL.out _).mono ?_); rintro e1 w2 ⟨rfl, h2⟩; have HX2 := Lib.hid (show Ext wr w2 from (by (with_reducible (repeat (first | exact Ext.refl _ | assumption | (refine Ext.toSet ?_ (by omega)) | refine Ext.toAlloc ?_ | refine Ext.toDrew ?_ | refine Ext.toDrewN ?_ | refine Ext.trans ?_ (by assumption)))); (first | done | fail "no"))); have hs2 := HX2.out.size)
          | (at_builtin; refine appI rfl _ _ rfl w.heap.size A c (inpV D m IN) j rfl (H.out.1.ext (HX2.out.trans (Ext.alloc _ _))) _ _ rfl (by rw [HV.out]; go_simp) (by omega) (by simp; omega) ?_; intro g cap w3 hown hgrow hat hltg; have HN := Lib.hid hown; have HG := Lib.hid (Below.grown (H.out.2.1.trans (HX2.out.trans (Ext.alloc _ _))) hgrow (H.out.2.1.trans (HX2.out.trans (Ext.alloc _ _))).size H.out.2.2); have HQ : Hid (W1.heap.size ≤ g) := (by rcases hat with h | h; exact H.out.2.2 g h; (rw [h]; exact (H.out.2.1.trans (HX2.out.trans (Ext.alloc _ _))).size)); clear hown hgrow hat hltg))
        (try rw [← hp])
        go_roundw
        case rel => exact ⟨j + 1, _, _, by omega, by go_num, rfl, HN.out, HG.out, fun k hk => by injection hk with hk; subst hk; exact HQ.out⟩
        case measure => simp [intOf]; omega
      · have hjm' : ¬ (j : Int) < (m : Int) := by omega
        have HCL : Hid (∀ w', Calls Tryz.prog 58 #[I 0, I (D.P j).lo, I (D.P j).hi] w' fun e w'' => e = .returned (I v) ∧ Ext w' w'') := fun w' => by
          have := clipq_any 0 (D.P j).lo (D.P j).hi w' hle
          rw [← hv]; unfold inpV; rw [if_neg hjm]; exact this
        clear hcp hv hle
        generalize (D.P j).lo = plo at *
        generalize (D.P j).hi = phi at *
        generalize (D.P j).fr = pfr at *
        go_wp2_with (first
          | (go_at_call 58; (with_reducible refine (HCL.out _).mono ?_); rintro e1 w2 ⟨rfl, h2⟩; have HX2 := Lib.hid (show Ext wr w2 from (by (with_reducible (repeat (first | exact Ext.refl _ | assumption | (refine Ext.toSet ?_ (by omega)) | refine Ext.toAlloc ?_ | refine Ext.toDrew ?_ | refine Ext.toDrewN ?_ | refine Ext.trans ?_ (by assumption)))); (first | done | fail "no"))); have hs2 := HX2.out.size)
          | (at_builtin; refine appI rfl _ _ rfl w.heap.size A c (inpV D m IN) j rfl (H.out.1.ext (HX2.out.trans (Ext.alloc _ _))) _ _ rfl (by rw [HV.out]; go_simp) (by omega) (by simp; omega) ?_; intro g cap w3 hown hgrow hat hltg; have HN := Lib.hid hown; have HG := Lib.hid (Below.grown (H.out.2.1.trans (HX2.out.trans (Ext.alloc _ _))) hgrow (H.out.2.1.trans (HX2.out.trans (Ext.alloc _ _))).size H.out.2.2); have HQ : Hid (W1.heap.size ≤ g) := (by rcases hat with h | h; exact H.out.2.2 g h; (rw [h]; exact (H.out.2.1.trans (HX2.out.trans (Ext.alloc _ _))).size)); clear hown hgrow hat hltg))
        (try rw [← hp])
        go_roundw
        case rel => exact ⟨j + 1, _, _, by omega, by go_num, rfl, HN.out, HG.out, fun k hk => by injection hk with hk; subst hk; exact HQ.out⟩
        case measure => simp [intOf]; omega
    · obtain rfl : j = D.ni := by omega
      go_wp2_with fail
      go_ret
      exact ⟨A, c, rfl, H.out.1, HE.out.trans H.out.2.1⟩
end Go.Proofs.YtkocmdpfknoiaaaGreatDoor
