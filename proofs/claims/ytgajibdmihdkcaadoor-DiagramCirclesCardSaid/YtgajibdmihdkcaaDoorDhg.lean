/- Diagrams: Affine by the reference. -/
import Derived.Test.YtgajibdmihdkcaaDoorDhf
namespace Go.Proofs.YtgajibdmihdkcaaDoor
open Go Go.RowKit

theorem anyN_iff {n : Nat} {q : Nat → Bool} : anyN n q = true ↔ ∃ i, i < n ∧ q i = true := by
  unfold anyN
  rw [decide_eq_true_iff]
  constructor
  · intro h
    rcases fstI_cases n q with ⟨e, _⟩ | ⟨j, hj, _, hq, _⟩
    · rw [e] at h; omega
    · exact ⟨j, hj, hq⟩
  · rintro ⟨i, hi, hq⟩
    rcases fstI_cases n q with ⟨_, h⟩ | ⟨j, _, e, _, _⟩
    · rw [h i hi] at hq; cases hq
    · rw [e]; omega
theorem anyN_no {n : Nat} {q : Nat → Bool} (h : ∀ i, i < n → q i = false) : anyN n q = false := by unfold anyN; rw [fstI_none h]; rfl

/-! ### Marks that flow against the arguments -/
def VClo (D : Dia) (T : Nat → Bool) : Prop := ∀ k, k < D.nb → (vbase D k = true ∨ ∃ j, j < ns D k ∧ T (sr D k j) = true) → T k = true
structure Vry (D : Dia) (M : Nat → Bool) (r : Nat) : Prop where
  least : ∀ T, VClo D T → ∀ i, M i = true → T i = true
  much : VClo D M ∨ r ≤ cnt D.nb M
theorem Vry.start {D : Dia} : Vry D (fun _ => false) 0 := ⟨fun _ _ _ h => (by cases h), Or.inr (Nat.zero_le _)⟩
structure VryI (D : Dia) (M0 M : Nat → Bool) (i : Nat) : Prop where
  least : ∀ T, VClo D T → ∀ i, M i = true → T i = true
  sub : ∀ i, M0 i = true → M i = true
  done : ∀ k, k < i → (vbase D k = true ∨ ∃ j, j < ns D k ∧ M0 (sr D k j) = true) → M k = true
theorem Vry.go {D : Dia} {M : Nat → Bool} {r : Nat} (h : Vry D M r) : VryI D M M 0 := ⟨h.least, fun _ h => h, fun k hk => absurd hk (by omega)⟩
/-- The marks at block i after k of its sources. -/
def vM (D : Dia) (i : Nat) (M : Nat → Bool) : Nat → Nat → Bool
  | 0 => fun x => if x = i then M i || vbase D i else M x
  | k + 1 => fun x => if x = i then vM D i M k i || vM D i M k (sr D i k) else vM D i M k x
theorem vM_z {D : Dia} {i : Nat} {M : Nat → Bool} (x : Nat) : vM D i M 0 x = if x = i then M i || vbase D i else M x := rfl
theorem vM_s {D : Dia} {i : Nat} {M : Nat → Bool} (k x : Nat) : vM D i M (k + 1) x = if x = i then vM D i M k i || vM D i M k (sr D i k) else vM D i M k x := rfl
theorem vM_off {D : Dia} {i : Nat} {M : Nat → Bool} (k : Nat) {x : Nat} (h : x ≠ i) : vM D i M k x = M x := by
  induction k with
  | zero => rw [vM_z, if_neg h]
  | succ k ih => rw [vM_s, if_neg h, ih]
theorem vM_up {D : Dia} {i : Nat} {M : Nat → Bool} (k : Nat) (h : M i = true ∨ vbase D i = true) : vM D i M k i = true := by
  induction k with
  | zero => rw [vM_z, if_pos rfl, Bool.or_eq_true]; exact h
  | succ k ih => rw [vM_s, if_pos rfl, ih]; rfl
theorem vM_sub {D : Dia} {i : Nat} {M : Nat → Bool} (k x : Nat) (h : M x = true) : vM D i M k x = true := by
  by_cases e : x = i
  · subst e; exact vM_up k (.inl h)
  · rw [vM_off k e]; exact h
theorem vM_in {D : Dia} {i : Nat} {M : Nat → Bool} {k j : Nat} (h : j < k) (hj : M (sr D i j) = true) : vM D i M k i = true := by
  induction k with
  | zero => omega
  | succ k ih =>
    rw [vM_s, if_pos rfl]
    by_cases e : j = k
    · subst e; rw [vM_sub j _ hj, Bool.or_true]
    · rw [ih (by omega)]; rfl
theorem vM_cases {D : Dia} {i : Nat} {M : Nat → Bool} {k : Nat} (h : vM D i M k i = true) : M i = true ∨ vbase D i = true ∨ ∃ j, j < k ∧ M (sr D i j) = true := by
  induction k with
  | zero =>
    rw [vM_z, if_pos rfl, Bool.or_eq_true] at h
    rcases h with a | a
    · exact .inl a
    · exact .inr (.inl a)
  | succ k ih =>
    rw [vM_s, if_pos rfl, Bool.or_eq_true] at h
    have up : vM D i M k i = true → (M i = true ∨ vbase D i = true ∨ ∃ j, j < k + 1 ∧ M (sr D i j) = true) := fun q => by
      rcases ih q with a | a | ⟨j, hj, a⟩
      · exact .inl a
      · exact .inr (.inl a)
      · exact .inr (.inr ⟨j, by omega, a⟩)
    rcases h with a | a
    · exact up a
    · by_cases e : sr D i k = i
      · rw [e] at a; exact up a
      · rw [vM_off k e] at a; exact .inr (.inr ⟨k, by omega, a⟩)
theorem VryI.next {D : Dia} {M0 M : Nat → Bool} {i : Nat} (h : VryI D M0 M i) (hi : i < D.nb) : VryI D M0 (vM D i M (ns D i)) (i + 1) where
  least := fun T hT x hx => by
    by_cases e : x = i
    · subst e
      rcases vM_cases hx with a | a | ⟨j, hj, a⟩
      · exact h.least T hT _ a
      · exact hT _ hi (.inl a)
      · exact hT _ hi (.inr ⟨j, hj, h.least T hT _ a⟩)
    · rw [vM_off _ e] at hx; exact h.least T hT _ hx
  sub := fun x hx => vM_sub _ _ (h.sub x hx)
  done := fun k hk hb => by
    by_cases e : k = i
    · subst e
      rcases hb with a | ⟨j, hj, a⟩
      · exact vM_up _ (.inr a)
      · exact vM_in hj (h.sub _ a)
    · exact vM_sub _ _ (h.done k (by omega) hb)
theorem VryI.end_ {D : Dia} {M0 M : Nat → Bool} {r : Nat} (wf : WF D) (h0 : Vry D M0 r) (h : VryI D M0 M D.nb) : Vry D M (r + 1) where
  least := h.least
  much := by
    by_cases q : cnt D.nb M ≤ cnt D.nb M0
    · left
      intro k hk hb
      refine h.done k hk ?_
      rcases hb with a | ⟨j, hj, a⟩
      · exact .inl a
      · exact .inr ⟨j, hj, cnt_eq (fun i _ => h.sub i) q _ (wf.src hk hj).2.1 a⟩
    · rcases h0.much with c | c
      · left
        intro k hk hb
        refine h.sub k (c k hk ?_)
        rcases hb with a | ⟨j, hj, a⟩
        · exact .inl a
        · exact .inr ⟨j, hj, h.least M0 c _ a⟩
      · right; omega
theorem Vry.fin {D : Dia} {M : Nat → Bool} (h : Vry D M D.nb) : VClo D M := by
  rcases h.much with c | c
  · exact c
  · intro k hk _; exact cnt_all c k hk
theorem vryC_iff {D : Dia} {i : Nat} : vryC D i = true ↔ ∃ x, x < D.nb ∧ ovrR D [i] x = true ∧ vbase D x = true := by
  unfold vryC
  rw [anyN_iff]
  constructor
  · rintro ⟨m, hm, hv⟩
    have hg : (ovrL D i).getD m 0 ∈ ovrL D i := by
      rw [List.getD_eq_getElem?_getD, List.getElem?_eq_getElem hm]; exact List.getElem_mem hm
    have := mem_mkL.1 hg
    exact ⟨_, this.1, this.2, hv⟩
  · rintro ⟨x, hx, hr, hv⟩
    have hm : x ∈ ovrL D i := mem_mkL.2 ⟨hx, hr⟩
    obtain ⟨m, hm, e⟩ := List.getElem_of_mem hm
    refine ⟨m, hm, ?_⟩
    rw [List.getD_eq_getElem?_getD, List.getElem?_eq_getElem hm, Option.getD_some, e]; exact hv
theorem vry_eq {D : Dia} {M : Nat → Bool} (h : Vry D M D.nb) {i : Nat} (hi : i < D.nb) : M i = vryC D i := by
  have hc := h.fin
  rw [Bool.eq_iff_iff]
  constructor
  · refine h.least (vryC D) (fun k hk hb => ?_) i
    rw [vryC_iff]
    rcases hb with a | ⟨j, hj, a⟩
    · exact ⟨k, hk, (rch_is D.nb (nxD D true) (inL [k])).stt k (by simp [inL]), a⟩
    · obtain ⟨x, hx, hr, hv⟩ := vryC_iff.1 a
      refine ⟨x, hx, ?_, hv⟩
      refine rch_iff.2 fun T hT hs => rch_iff.1 hr T hT fun y hy => ?_
      obtain rfl : y = sr D k j := by simpa [inL] using hy
      exact hT k hk (hs k (by simp [inL])) j (by rw [nn_o]; exact hj)
  · intro hv
    obtain ⟨x, hx, hr, hb⟩ := vryC_iff.1 hv
    have hM : M x = true := hc x hx (.inl hb)
    have := rch_iff.1 hr (fun y => !M y || M i) (fun y hy hT j hj => by
      rw [nn_o] at hj
      show (!M (sr D y j) || M i) = true
      cases hq : M (sr D y j) with
      | false => rfl
      | true =>
        have : M y = true := hc y hy (.inr ⟨j, hj, hq⟩)
        have hT' : (!M y || M i) = true := hT
        rw [this] at hT'; simpa using hT') (fun y hy => by
      obtain rfl : y = i := by simpa [inL] using hy
      simp)
    have h' : (!M x || M i) = true := this
    rw [hM] at h'; simpa using h'

theorem NdM.putv {W0 w : World} {g3 gm : Nat} {D : Dia} {p : Pl} {M : Nat → Bool} (h : NdM W0 w g3 gm D p M) (x : Nat) (v : Bool) {M' : Nat → Bool} (hM : ∀ i, M' i = if i = x then v else M i) : NdM W0 (w.setCell ⟨gm, x, none⟩ (.bool v)) g3 gm D p M' := by
  have ne : ∀ i, (w.setCell ⟨gm, x, none⟩ (.bool v)).cell? ⟨g3, i, none⟩ = w.cell? ⟨g3, i, none⟩ := fun i => World.cell?_setCell_other _ _ _ _ (by intro e; injection e with e; exact h.ne e)
  refine ⟨h.ext.set h.old _, h.old, ⟨(ne _).trans h.box.c0, (ne _).trans h.box.c1, (ne _).trans h.box.c2⟩, h.ne, (h.row.set x (.bool v)).congr fun i _ => ?_⟩
  rw [hM i]
  by_cases q : i = x <;> simp [q]

set_option maxRecDepth 100000 in
set_option maxHeartbeats 4000000 in
theorem raffine_any {w : World} {D : Dia} {p : Pl} (d : Dm w D p) (wf : WF D) : Calls Tryd.prog 25 #[dgv D p] w fun e w' => e = .returned (.bool (affC D)) ∧ Ext w w' := by
  have hnb := wf.nb
  have hmk := run_make_row' 55 4 (.bool false) 1 Tryd.underlying55 infoB rfl .i64 .i64 D.nb (by omega) (by omega)
  obtain ⟨W1, hW1⟩ : ∃ W1, W1 = w.alloc (.cells #[.slice p.AI D.ni p.cI, .slice p.AB D.nb p.cB, .slice p.AO D.no p.cO] 26) := ⟨_, rfl⟩
  have hE : Ext w W1 := by rw [hW1]; exact Ext.alloc _ _
  have hz1 : W1.heap.size = w.heap.size + 1 := by rw [hW1]; simp
  have hbd : Bd W1 w.heap.size D p := by show Bd _ _ _ _; rw [hW1]; exact Bd.new _ _ _ _
  obtain ⟨W2, hW2⟩ : ∃ W2, W2 = W1.alloc (.cells (madeCells #[.bool false] D.nb) 4) := ⟨_, rfl⟩
  have hE2 : Ext W1 W2 := by rw [hW2]; exact Ext.alloc _ _
  have hrow : W2.rowIs (w.heap.size + 1) 4 D.nb (fun _ => .bool false) := by rw [hW2]; exact rowIs_made' W1 (.bool false) D.nb 4 hz1.symm
  obtain ⟨W0, hW0⟩ : ∃ W0, W0 = W1 := ⟨_, rfl⟩
  obtain ⟨g3, hg3⟩ : ∃ g3, g3 = w.heap.size := ⟨_, rfl⟩
  obtain ⟨gm, hgm⟩ : ∃ gm, gm = w.heap.size + 1 := ⟨_, rfl⟩
  have HM0 : Hid (NdM W1 W2 g3 gm D p (fun _ => false)) := ⟨hE2, by omega, by rw [hg3]; exact hbd.ext hE2, by omega, by rw [hgm]; exact hrow⟩
  have HD := Lib.hid (d.ext hE)
  have HWF := Lib.hid wf
  have HE := Lib.hid hE
  obtain ⟨c0, c1, c2⟩ := hbd.ext hE2
  clear d wf hrow hE2 hE hbd
  have hlit : (0 : Int) ≤ (D.nb : Int) := by omega
  go_enter Tryd.func25, Tryd.ntmps25
  go_upto_region 2 with fail
  rw [← hW1, ← hW2]
  have hz2 : W1.heap.size = gm := by omega
  (try rw [hz1])
  rw [← hgm, ← hg3]
  rw [← hg3] at c0 c1 c2
  have HZ := Lib.hid (And.intro hz1 hg3)
  clear hW2 hW1 hmk hgm hz1 hg3 hz2 hW0
  go_wp2_with fail
  clear c0 c1 c2
  go_loopw [17] (fun s wr => ∃ (r : Nat) (M : Nat → Bool), r ≤ D.nb ∧ s = I r ∧ Hid (NdM W1 wr g3 gm D p M) ∧ Hid (Vry D M r)) (fun s _ => D.nb - (intOf s).toNat)
  case atStart => exact ⟨0, _, Nat.zero_le _, rfl, HM0, Vry.start⟩
  case round =>
    clear HM0
    obtain ⟨r, M0, hr, rfl, H, HK⟩ := hrel
    obtain ⟨c0, c1, c2⟩ := H.out.box
    by_cases hltr : r < D.nb
    · have hltr' : (r : Int) < (D.nb : Int) := by omega
      go_wp2_with fail
      clear c0 c1 c2
      go_loopw [22] (fun s wr => ∃ (i : Nat) (M : Nat → Bool), i ≤ D.nb ∧ s = I i ∧ Hid (NdM W1 wr g3 gm D p M) ∧ Hid (VryI D M0 M i)) (fun s _ => D.nb - (intOf s).toNat)
      case atStart => exact ⟨0, M0, Nat.zero_le _, rfl, H, HK.out.go⟩
      case round =>
        obtain ⟨i, M, hi, rfl, H2, HK2⟩ := hrel
        by_cases hlt : i < D.nb
        · have dd := HD.out.ext H2.out.ext
          obtain ⟨b, o, ha, hba, hc⟩ := dd.blocks (by omega)
          obtain ⟨x0, x1, x2, x3, x4, x5⟩ := hc i hlt
          have hmi := H2.out.row.cell hlt
          have hgm := H2.out.row.lt
          have hfz0 := H2.out.row.frozen i
          have hlt' : (i : Int) < (D.nb : Int) := by omega
          obtain ⟨A3, c3, hbl, hri⟩ := blocks_at HD.out hlt
          have HBL := Lib.hid hbl; have HRI := Lib.hid hri
          have HSRC := Lib.hid (fun j (hj : j < ns D i) => HWF.out.src hlt hj)
          have hns := (HWF.out.ns2 hlt).1
          have HNX := Lib.hid (HK2.out.next hlt)
          have HVZ := Lib.hid (fun x => @vM_z D i M x)
          have hvb : vbase D i = ((D.B i).k == 0 || (D.B i).k == 2) := rfl
          clear hbl hri hc dd
          generalize (D.B i).k = kk at *
          cases hm : M i with
          | true =>
            rw [hm] at hmi HVZ
            clear hvb hm
            have HPV : Hid (NdM W1 (wr.setCell ⟨gm, i, none⟩ (.bool true)) g3 gm D p (vM D i M 0)) := H2.out.putv i true (fun x => by rw [HVZ.out x]; by_cases e : x = i <;> simp [e])
            go_wp2_with (go_at_call 48; (with_reducible refine (HBL.out _).mono ?_); rintro e3 w3 ⟨rfl, y3⟩)
            have H3 : Hid (NdM W1 w3 g3 gm D p (vM D i M 0)) := (HPV.out.to (Ext.alloc _ _)).to y3
            clear x0 x1 x2 x3 x4 x5 hmi y3
            generalize hmm : ns D i = m at *
            clear hmm
            go_loopw [47] (fun s wr => ∃ k : Nat, k ≤ m ∧ s = I k ∧ Hid (NdM W1 wr g3 gm D p (vM D i M k))) (fun s _ => m - (intOf s).toNat)
            case atStart => exact ⟨0, Nat.zero_le _, rfl, H3⟩
            case round =>
              obtain ⟨k, hk, rfl, H4⟩ := hrel
              by_cases hltk : k < m
              · obtain ⟨b3, o3, ha3, hb3, hc3⟩ := HRI.out _ H4.out.ext (by omega)
                have xa := hc3 k hltk
                obtain ⟨s1, s2, _⟩ := HSRC.out k hltk
                rw [s1] at xa
                have hcell := H4.out.row.cell s2
                have hci := H4.out.row.cell hlt
                have hfz := H4.out.row.frozen i
                have hs2 : ((sr D i k : Nat) : Int) < (D.nb : Int) := by omega
                have hltk' : (k : Int) < (m : Int) := by omega
                have HVS := Lib.hid (fun x => @vM_s D i M k x)
                subst ha3
                clear hc3 s1
                cases hvi : vM D i M k i with
                | true =>
                  rw [hvi] at hci HVS
                  have HP : Hid (NdM W1 (wr.setCell ⟨gm, i, none⟩ (.bool true)) g3 gm D p (vM D i M (k + 1))) := H4.out.putv i true (fun x => by rw [HVS.out x]; by_cases e : x = i <;> simp [e])
                  clear hvi
                  go_wp2_with fail
                  (try rw [← ha])
                  go_roundw
                  case rel => exact ⟨k + 1, by omega, by go_num, HP⟩
                  case measure => simp [intOf]; omega
                | false =>
                  rw [hvi] at hci HVS
                  have HP : Hid (NdM W1 (wr.setCell ⟨gm, i, none⟩ (.bool (vM D i M k (sr D i k)))) g3 gm D p (vM D i M (k + 1))) := H4.out.putv i _ (fun x => by rw [HVS.out x]; by_cases e : x = i <;> simp [e])
                  clear hvi
                  generalize vM D i M k (sr D i k) = vk at *
                  go_wp2_with fail
                  (try rw [← ha])
                  go_roundw
                  case rel => exact ⟨k + 1, by omega, by go_num, HP⟩
                  case measure => simp [intOf]; omega
              · obtain rfl : k = m := by omega
                go_wp2_with fail
                (try rw [← ha])
                go_roundw
                case rel => exact ⟨i + 1, _, by omega, by go_num, H4, HNX⟩
                case measure => simp [intOf]; omega
          | false =>
            rw [hm] at hmi HVZ
            clear hm
            cases hk0 : (kk == 0) with
            | true =>
              rw [hk0] at hvb
              rw [hvb] at HVZ
              clear hvb
              have HPV : Hid (NdM W1 (wr.setCell ⟨gm, i, none⟩ (.bool true)) g3 gm D p (vM D i M 0)) := H2.out.putv i true (fun x => by rw [HVZ.out x]; by_cases e : x = i <;> simp [e])
              go_wp2_with (go_at_call 48; (with_reducible refine (HBL.out _).mono ?_); rintro e3 w3 ⟨rfl, y3⟩)
              have H3 : Hid (NdM W1 w3 g3 gm D p (vM D i M 0)) := (HPV.out.to (Ext.alloc _ _)).to y3
              clear x0 x1 x2 x3 x4 x5 hmi y3
              generalize hmm : ns D i = m at *
              clear hmm
              go_loopw [47] (fun s wr => ∃ k : Nat, k ≤ m ∧ s = I k ∧ Hid (NdM W1 wr g3 gm D p (vM D i M k))) (fun s _ => m - (intOf s).toNat)
              case atStart => exact ⟨0, Nat.zero_le _, rfl, H3⟩
              case round =>
                obtain ⟨k, hk, rfl, H4⟩ := hrel
                by_cases hltk : k < m
                · obtain ⟨b3, o3, ha3, hb3, hc3⟩ := HRI.out _ H4.out.ext (by omega)
                  have xa := hc3 k hltk
                  obtain ⟨s1, s2, _⟩ := HSRC.out k hltk
                  rw [s1] at xa
                  have hcell := H4.out.row.cell s2
                  have hci := H4.out.row.cell hlt
                  have hfz := H4.out.row.frozen i
                  have hs2 : ((sr D i k : Nat) : Int) < (D.nb : Int) := by omega
                  have hltk' : (k : Int) < (m : Int) := by omega
                  have HVS := Lib.hid (fun x => @vM_s D i M k x)
                  subst ha3
                  clear hc3 s1
                  cases hvi : vM D i M k i with
                  | true =>
                    rw [hvi] at hci HVS
                    have HP : Hid (NdM W1 (wr.setCell ⟨gm, i, none⟩ (.bool true)) g3 gm D p (vM D i M (k + 1))) := H4.out.putv i true (fun x => by rw [HVS.out x]; by_cases e : x = i <;> simp [e])
                    clear hvi
                    go_wp2_with fail
                    (try rw [← ha])
                    go_roundw
                    case rel => exact ⟨k + 1, by omega, by go_num, HP⟩
                    case measure => simp [intOf]; omega
                  | false =>
                    rw [hvi] at hci HVS
                    have HP : Hid (NdM W1 (wr.setCell ⟨gm, i, none⟩ (.bool (vM D i M k (sr D i k)))) g3 gm D p (vM D i M (k + 1))) := H4.out.putv i _ (fun x => by rw [HVS.out x]; by_cases e : x = i <;> simp [e])
                    clear hvi
                    generalize vM D i M k (sr D i k) = vk at *
                    go_wp2_with fail
                    (try rw [← ha])
                    go_roundw
                    case rel => exact ⟨k + 1, by omega, by go_num, HP⟩
                    case measure => simp [intOf]; omega
                · obtain rfl : k = m := by omega
                  go_wp2_with fail
                  (try rw [← ha])
                  go_roundw
                  case rel => exact ⟨i + 1, _, by omega, by go_num, H4, HNX⟩
                  case measure => simp [intOf]; omega
            | false =>
              rw [hk0] at hvb
              cases hk2 : (kk == 2) with
              | true =>
                rw [hk2] at hvb
                rw [hvb] at HVZ
                clear hvb
                have HPV : Hid (NdM W1 (wr.setCell ⟨gm, i, none⟩ (.bool true)) g3 gm D p (vM D i M 0)) := H2.out.putv i true (fun x => by rw [HVZ.out x]; by_cases e : x = i <;> simp [e])
                go_wp2_with (go_at_call 48; (with_reducible refine (HBL.out _).mono ?_); rintro e3 w3 ⟨rfl, y3⟩)
                have H3 : Hid (NdM W1 w3 g3 gm D p (vM D i M 0)) := (HPV.out.to (Ext.alloc _ _)).to y3
                clear x0 x1 x2 x3 x4 x5 hmi y3
                generalize hmm : ns D i = m at *
                clear hmm
                go_loopw [47] (fun s wr => ∃ k : Nat, k ≤ m ∧ s = I k ∧ Hid (NdM W1 wr g3 gm D p (vM D i M k))) (fun s _ => m - (intOf s).toNat)
                case atStart => exact ⟨0, Nat.zero_le _, rfl, H3⟩
                case round =>
                  obtain ⟨k, hk, rfl, H4⟩ := hrel
                  by_cases hltk : k < m
                  · obtain ⟨b3, o3, ha3, hb3, hc3⟩ := HRI.out _ H4.out.ext (by omega)
                    have xa := hc3 k hltk
                    obtain ⟨s1, s2, _⟩ := HSRC.out k hltk
                    rw [s1] at xa
                    have hcell := H4.out.row.cell s2
                    have hci := H4.out.row.cell hlt
                    have hfz := H4.out.row.frozen i
                    have hs2 : ((sr D i k : Nat) : Int) < (D.nb : Int) := by omega
                    have hltk' : (k : Int) < (m : Int) := by omega
                    have HVS := Lib.hid (fun x => @vM_s D i M k x)
                    subst ha3
                    clear hc3 s1
                    cases hvi : vM D i M k i with
                    | true =>
                      rw [hvi] at hci HVS
                      have HP : Hid (NdM W1 (wr.setCell ⟨gm, i, none⟩ (.bool true)) g3 gm D p (vM D i M (k + 1))) := H4.out.putv i true (fun x => by rw [HVS.out x]; by_cases e : x = i <;> simp [e])
                      clear hvi
                      go_wp2_with fail
                      (try rw [← ha])
                      go_roundw
                      case rel => exact ⟨k + 1, by omega, by go_num, HP⟩
                      case measure => simp [intOf]; omega
                    | false =>
                      rw [hvi] at hci HVS
                      have HP : Hid (NdM W1 (wr.setCell ⟨gm, i, none⟩ (.bool (vM D i M k (sr D i k)))) g3 gm D p (vM D i M (k + 1))) := H4.out.putv i _ (fun x => by rw [HVS.out x]; by_cases e : x = i <;> simp [e])
                      clear hvi
                      generalize vM D i M k (sr D i k) = vk at *
                      go_wp2_with fail
                      (try rw [← ha])
                      go_roundw
                      case rel => exact ⟨k + 1, by omega, by go_num, HP⟩
                      case measure => simp [intOf]; omega
                  · obtain rfl : k = m := by omega
                    go_wp2_with fail
                    (try rw [← ha])
                    go_roundw
                    case rel => exact ⟨i + 1, _, by omega, by go_num, H4, HNX⟩
                    case measure => simp [intOf]; omega
              | false =>
                rw [hk2] at hvb
                rw [hvb] at HVZ
                clear hvb
                have HPV : Hid (NdM W1 (wr.setCell ⟨gm, i, none⟩ (.bool false)) g3 gm D p (vM D i M 0)) := H2.out.putv i false (fun x => by rw [HVZ.out x]; by_cases e : x = i <;> simp [e])
                go_wp2_with (go_at_call 48; (with_reducible refine (HBL.out _).mono ?_); rintro e3 w3 ⟨rfl, y3⟩)
                have H3 : Hid (NdM W1 w3 g3 gm D p (vM D i M 0)) := (HPV.out.to (Ext.alloc _ _)).to y3
                clear x0 x1 x2 x3 x4 x5 hmi y3
                generalize hmm : ns D i = m at *
                clear hmm
                go_loopw [47] (fun s wr => ∃ k : Nat, k ≤ m ∧ s = I k ∧ Hid (NdM W1 wr g3 gm D p (vM D i M k))) (fun s _ => m - (intOf s).toNat)
                case atStart => exact ⟨0, Nat.zero_le _, rfl, H3⟩
                case round =>
                  obtain ⟨k, hk, rfl, H4⟩ := hrel
                  by_cases hltk : k < m
                  · obtain ⟨b3, o3, ha3, hb3, hc3⟩ := HRI.out _ H4.out.ext (by omega)
                    have xa := hc3 k hltk
                    obtain ⟨s1, s2, _⟩ := HSRC.out k hltk
                    rw [s1] at xa
                    have hcell := H4.out.row.cell s2
                    have hci := H4.out.row.cell hlt
                    have hfz := H4.out.row.frozen i
                    have hs2 : ((sr D i k : Nat) : Int) < (D.nb : Int) := by omega
                    have hltk' : (k : Int) < (m : Int) := by omega
                    have HVS := Lib.hid (fun x => @vM_s D i M k x)
                    subst ha3
                    clear hc3 s1
                    cases hvi : vM D i M k i with
                    | true =>
                      rw [hvi] at hci HVS
                      have HP : Hid (NdM W1 (wr.setCell ⟨gm, i, none⟩ (.bool true)) g3 gm D p (vM D i M (k + 1))) := H4.out.putv i true (fun x => by rw [HVS.out x]; by_cases e : x = i <;> simp [e])
                      clear hvi
                      go_wp2_with fail
                      (try rw [← ha])
                      go_roundw
                      case rel => exact ⟨k + 1, by omega, by go_num, HP⟩
                      case measure => simp [intOf]; omega
                    | false =>
                      rw [hvi] at hci HVS
                      have HP : Hid (NdM W1 (wr.setCell ⟨gm, i, none⟩ (.bool (vM D i M k (sr D i k)))) g3 gm D p (vM D i M (k + 1))) := H4.out.putv i _ (fun x => by rw [HVS.out x]; by_cases e : x = i <;> simp [e])
                      clear hvi
                      generalize vM D i M k (sr D i k) = vk at *
                      go_wp2_with fail
                      (try rw [← ha])
                      go_roundw
                      case rel => exact ⟨k + 1, by omega, by go_num, HP⟩
                      case measure => simp [intOf]; omega
                  · obtain rfl : k = m := by omega
                    go_wp2_with fail
                    (try rw [← ha])
                    go_roundw
                    case rel => exact ⟨i + 1, _, by omega, by go_num, H4, HNX⟩
                    case measure => simp [intOf]; omega
        · obtain rfl : i = D.nb := by omega
          have HK3 := Lib.hid (HK2.out.end_ HWF.out HK.out)
          go_wp2_with fail
          go_roundw
          case rel => exact ⟨r + 1, M, by omega, by go_num, H2, HK3⟩
          case measure => simp [intOf]; omega
    · obtain rfl : r = D.nb := by omega
      have HV := Lib.hid (fun x (hx : x < D.nb) => vry_eq HK.out hx)
      go_wp2_with fail
      clear c0 c1 c2
      go_loopw [70] (fun s wr => ∃ j : Nat, j ≤ D.nb ∧ s = I j ∧ Hid (NdM W1 wr g3 gm D p M0) ∧ Hid (∀ i, i < j → bnd D i = false)) (fun s _ => D.nb - (intOf s).toNat)
      case atStart => exact ⟨0, Nat.zero_le _, rfl, H, fun i hi => absurd hi (by omega)⟩
      case round =>
        obtain ⟨j, hj, rfl, H2, HG⟩ := hrel
        by_cases hlt : j < D.nb
        · have dd := HD.out.ext H2.out.ext
          obtain ⟨b, o, ha, hba, hc⟩ := dd.blocks (by omega)
          obtain ⟨x0, x1, x2, x3, x4, x5⟩ := hc j hlt
          have hlt' : (j : Int) < (D.nb : Int) := by omega
          have hgm := H2.out.row.lt
          have hbn0 : bnd D j = ((D.B j).k == 8 || (D.B j).k == 9 || (D.B j).k == 10 || (D.B j).k == 11 || ((D.B j).k == 7 && vryC D (sr D j 0) && vryC D (sr D j 1))) := rfl
          clear hc
          by_cases h7 : (D.B j).k = 7
          · have hn : (D.B j).n = 2 := by have := HWF.out.ar j hlt; rw [h7] at this; unfold arity at this; simp at this; omega
            have hns : ns D j = 2 := by unfold ns; rw [h7, hn]; rfl
            obtain ⟨s10, s11, _⟩ := HWF.out.src hlt (show 0 < ns D j by omega)
            obtain ⟨s20, s21, _⟩ := HWF.out.src hlt (show 1 < ns D j by omega)
            obtain ⟨b2, o2, haa, hb2, hc2⟩ := (dd.args j hlt).1 (by omega)
            have y0 := hc2 0 (by omega)
            have y1 := hc2 1 (by omega)
            rw [s10, Nat.add_zero] at y0
            rw [s20] at y1
            have z0 := H2.out.row.cell s11
            have z1 := H2.out.row.cell s21
            have t0 : ((sr D j 0 : Nat) : Int) < (D.nb : Int) := by omega
            have t1 : ((sr D j 1 : Nat) : Int) < (D.nb : Int) := by omega
            rw [← HV.out _ s11, ← HV.out _ s21, h7] at hbn0
            have hbn : bnd D j = (M0 (sr D j 0) && M0 (sr D j 1)) := hbn0
            rw [h7] at x0
            rw [hn, haa] at x1
            clear hbn0 h7 hns hc2 s10 s20 hn haa dd
            generalize sr D j 0 = s0 at *
            generalize sr D j 1 = s1 at *
            cases q0 : M0 s0 with
            | false =>
              rw [q0] at z0 hbn
              rw [Bool.false_and] at hbn
              have HG2 : Hid (∀ i, i < j + 1 → bnd D i = false) := fun i hi => by
                by_cases h : i = j
                · subst h; exact hbn
                · exact HG.out i (by omega)
              clear hbn
              go_wp2_with fail
              (try rw [← ha])
              go_roundw
              case rel => exact ⟨j + 1, by omega, by go_num, H2.out.to (Ext.alloc _ _), HG2⟩
              case measure => simp [intOf]; omega
            | true =>
              rw [q0] at z0 hbn
              cases q1 : M0 s1 with
              | false =>
                rw [q1] at z1 hbn
                rw [Bool.and_false] at hbn
                have HG2 : Hid (∀ i, i < j + 1 → bnd D i = false) := fun i hi => by
                  by_cases h : i = j
                  · subst h; exact hbn
                  · exact HG.out i (by omega)
                clear hbn
                go_wp2_with fail
                (try rw [← ha])
                go_roundw
                case rel => exact ⟨j + 1, by omega, by go_num, H2.out.to (Ext.alloc _ _), HG2⟩
                case measure => simp [intOf]; omega
              | true =>
                rw [q1] at z1 hbn
                rw [Bool.and_true] at hbn
                have HAF : Hid (affC D = false) := by show affC D = false; unfold affC; rw [anyN_iff.2 ⟨j, hlt, hbn⟩]; rfl
                clear hbn
                go_wp2_with fail
                go_ret
                exact ⟨by rw [HAF.out]; rfl, HE.out.trans (H2.out.ext.trans (Ext.alloc _ _))⟩
          · have g7 : ((D.B j).k == 7) = false := by simpa using h7
            clear dd h7
            generalize (D.B j).k = kk at *
            rw [g7] at hbn0
            cases g8 : (kk == 8)
            · cases g9 : (kk == 9)
              · cases g10 : (kk == 10)
                · cases g11 : (kk == 11)
                  · have hbn : bnd D j = false := by rw [hbn0, g8, g9, g10, g11]; simp
                    clear hbn0
                    have HG2 : Hid (∀ i, i < j + 1 → bnd D i = false) := fun i hi => by
                      by_cases h : i = j
                      · subst h; exact hbn
                      · exact HG.out i (by omega)
                    clear hbn
                    go_wp2_with fail
                    (try rw [← ha])
                    go_roundw
                    case rel => exact ⟨j + 1, by omega, by go_num, H2.out.to (Ext.alloc _ _), HG2⟩
                    case measure => simp [intOf]; omega
                  · have hbn : bnd D j = true := by rw [hbn0, g8, g9, g10, g11]; simp
                    clear hbn0
                    have HAF : Hid (affC D = false) := by show affC D = false; unfold affC; rw [anyN_iff.2 ⟨j, hlt, hbn⟩]; rfl
                    clear hbn
                    go_wp2_with fail
                    go_ret
                    exact ⟨by rw [HAF.out]; rfl, HE.out.trans (H2.out.ext.trans (Ext.alloc _ _))⟩
                · have hbn : bnd D j = true := by rw [hbn0, g8, g9, g10]; simp
                  clear hbn0
                  have HAF : Hid (affC D = false) := by show affC D = false; unfold affC; rw [anyN_iff.2 ⟨j, hlt, hbn⟩]; rfl
                  clear hbn
                  go_wp2_with fail
                  go_ret
                  exact ⟨by rw [HAF.out]; rfl, HE.out.trans (H2.out.ext.trans (Ext.alloc _ _))⟩
              · have hbn : bnd D j = true := by rw [hbn0, g8, g9]; simp
                clear hbn0
                have HAF : Hid (affC D = false) := by show affC D = false; unfold affC; rw [anyN_iff.2 ⟨j, hlt, hbn⟩]; rfl
                clear hbn
                go_wp2_with fail
                go_ret
                exact ⟨by rw [HAF.out]; rfl, HE.out.trans (H2.out.ext.trans (Ext.alloc _ _))⟩
            · have hbn : bnd D j = true := by rw [hbn0, g8]; simp
              clear hbn0
              have HAF : Hid (affC D = false) := by show affC D = false; unfold affC; rw [anyN_iff.2 ⟨j, hlt, hbn⟩]; rfl
              clear hbn
              go_wp2_with fail
              go_ret
              exact ⟨by rw [HAF.out]; rfl, HE.out.trans (H2.out.ext.trans (Ext.alloc _ _))⟩
        · obtain rfl : j = D.nb := by omega
          have HAF : Hid (affC D = true) := by show affC D = true; unfold affC; rw [anyN_no HG.out]; rfl
          go_wp2_with fail
          go_ret
          exact ⟨by rw [HAF.out]; rfl, HE.out.trans H2.out.ext⟩
end Go.Proofs.YtgajibdmihdkcaaDoor
