/- Diagrams: Check, by the code. -/
import Derived.Test.YtkocmdpfknoiaaaGreatDoorDgef
import Derived.Maps.AppendAt
import Derived.Laws.AppendOwnNone
namespace Go.Proofs.YtkocmdpfknoiaaaGreatDoor

/-! ### Dgi -/
section
open Go Go.RowKit

theorem prtE_3 {p : Prt} (h : prtE p ≠ 0) : prtE p = 3 := by
  unfold prtE at h ⊢
  split
  · rename_i q; rw [if_pos q] at h; exact absurd rfl h
  · rfl
section
variable {D : Dia}
theorem chk_large (h : 16 < D.ni ∨ 64 < D.nb ∨ 16 < D.no) : chk D = 4 := by unfold chk; rw [if_pos h]
theorem chk_port {j : Nat} (h0 : ¬ (16 < D.ni ∨ 64 < D.nb ∨ 16 < D.no)) (h : ∀ i, i < j → prtE (D.P i) = 0) (hj : j < D.ni) (he : prtE (D.P j) ≠ 0) : chk D = 3 := by
  unfold chk
  have := fstE_hit (f := fun i => prtE (D.P i)) h hj he
  rw [if_neg h0, this, if_pos he, prtE_3 he]
theorem chk_blk {j : Nat} (h0 : ¬ (16 < D.ni ∨ 64 < D.nb ∨ 16 < D.no)) (h1 : ∀ i, i < D.ni → prtE (D.P i) = 0) (h : ∀ i, i < j → blkE D (D.B i) = 0) (hj : j < D.nb) (he : blkE D (D.B j) ≠ 0) : chk D = blkE D (D.B j) := by
  unfold chk
  have := fstE_hit (f := fun i => blkE D (D.B i)) h hj he
  have h2 := fstE_none (f := fun i => prtE (D.P i)) h1
  rw [if_neg h0, if_neg (by rw [h2]; decide), this, if_pos he]
theorem chk_out (h0 : ¬ (16 < D.ni ∨ 64 < D.nb ∨ 16 < D.no)) (h1 : ∀ i, i < D.ni → prtE (D.P i) = 0) (h2 : ∀ i, i < D.nb → blkE D (D.B i) = 0) (he : fstE D.no (fun i => inE D.nb (D.O i)) ≠ 0) : chk D = 10 := by
  unfold chk
  have h3 := fstE_none (f := fun i => prtE (D.P i)) h1
  have h4 := fstE_none (f := fun i => blkE D (D.B i)) h2
  rw [if_neg h0, if_neg (by rw [h3]; decide), if_neg (by rw [h4]; decide), if_pos he, idx_10 he]
theorem chk_cyc (h0 : ¬ (16 < D.ni ∨ 64 < D.nb ∨ 16 < D.no)) (h1 : ∀ i, i < D.ni → prtE (D.P i) = 0) (h2 : ∀ i, i < D.nb → blkE D (D.B i) = 0) (he : fstE D.no (fun i => inE D.nb (D.O i)) = 0) :
    chk D = if (ordL D).length + (delL D).length < D.nb then 24 else 0 := by
  unfold chk
  have h3 := fstE_none (f := fun i => prtE (D.P i)) h1
  have h4 := fstE_none (f := fun i => blkE D (D.B i)) h2
  rw [if_neg h0, if_neg (by rw [h3]; decide), if_neg (by rw [h4]; decide), if_neg (by rw [he]; decide)]
theorem wf_of (h0 : ¬ (16 < D.ni ∨ 64 < D.nb ∨ 16 < D.no)) (h2 : ∀ i, i < D.nb → blkE D (D.B i) = 0) : WF D := chk_wf (by omega) (by omega) (by omega) (fstE_none (f := fun i => blkE D (D.B i)) h2)
end
theorem ord_le (D : Dia) : (ordL D).length ≤ D.nb := (ord_end D).1.le
theorem del_le (D : Dia) : (delL D).length ≤ D.nb := by unfold delL; rw [mkL_len]; exact cnt_le _ _

set_option maxRecDepth 100000 in
set_option maxHeartbeats 1000000 in
theorem check_large {w : World} {D : Dia} {p : Pl} (h : 16 < D.ni ∨ 64 < D.nb ∨ 16 < D.no) (l1 : D.ni ≤ maxLen) (l2 : D.nb ≤ maxLen) (l3 : D.no ≤ maxLen) : Calls Tryz.prog 16 #[dgv D p] w fun e w' => e = .returned (.iface 94 (I 4)) ∧ Ext w w' := by
  unfold maxLen at l1 l2 l3
  by_cases h1 : 16 < D.ni
  · have h1' : (16 : Int) < (D.ni : Int) := by omega
    clear h
    go_enter Tryz.func16, Tryz.ntmps16
    go_wp2_with fail
    go_ret
    exact ⟨rfl, (by repeat (first | exact Ext.refl _ | assumption | exact Ext.alloc _ _ | refine Ext.trans ?_ (by assumption) | refine Ext.trans ?_ (Ext.alloc _ _) | refine Ext.trans ?_ (Ext.drewN _ _) | refine Ext.trans ?_ (Ext.drew _)))⟩
  · have h1' : ¬ (16 : Int) < (D.ni : Int) := by omega
    by_cases h2 : 64 < D.nb
    · have h2' : (64 : Int) < (D.nb : Int) := by omega
      clear h
      go_enter Tryz.func16, Tryz.ntmps16
      go_wp2_with fail
      go_ret
      exact ⟨rfl, (by repeat (first | exact Ext.refl _ | assumption | exact Ext.alloc _ _ | refine Ext.trans ?_ (by assumption) | refine Ext.trans ?_ (Ext.alloc _ _) | refine Ext.trans ?_ (Ext.drewN _ _) | refine Ext.trans ?_ (Ext.drew _)))⟩
    · have h2' : ¬ (64 : Int) < (D.nb : Int) := by omega
      have h3' : (16 : Int) < (D.no : Int) := by omega
      clear h
      go_enter Tryz.func16, Tryz.ntmps16
      go_wp2_with fail
      go_ret
      exact ⟨rfl, (by repeat (first | exact Ext.refl _ | assumption | exact Ext.alloc _ _ | refine Ext.trans ?_ (by assumption) | refine Ext.trans ?_ (Ext.alloc _ _) | refine Ext.trans ?_ (Ext.drewN _ _) | refine Ext.trans ?_ (Ext.drew _)))⟩

set_option maxRecDepth 100000 in
set_option maxHeartbeats 1000000 in
theorem check_in {w : World} {D : Dia} {p : Pl} (d : Dm w D p) (hT : Tabs w) (h0 : ¬ (16 < D.ni ∨ 64 < D.nb ∨ 16 < D.no)) : Calls Tryz.prog 16 #[dgv D p] w fun e w' => e = .returned (errv (chk D)) ∧ Ext w w' := by
  have n1 : D.ni ≤ 16 := by omega
  have n2 : D.nb ≤ 64 := by omega
  have n3 : D.no ≤ 16 := by omega
  have H0 := Lib.hid h0
  have m1 : ¬ (16 : Int) < (D.ni : Int) := by omega
  have m2 : ¬ (64 : Int) < (D.nb : Int) := by omega
  have m3 : ¬ (16 : Int) < (D.no : Int) := by omega
  clear h0
  have HBD := Lib.hid (Bd.new w D p 26)
  obtain ⟨W1, hW1⟩ : ∃ W1, W1 = w.alloc (.cells #[.slice p.AI D.ni p.cI, .slice p.AB D.nb p.cB, .slice p.AO D.no p.cO] 26) := ⟨_, rfl⟩
  have hE : Ext w W1 := by rw [hW1]; exact Ext.alloc _ _
  have hz1 : W1.heap.size = w.heap.size + 1 := by rw [hW1]; simp
  rw [← hW1] at HBD
  have HD := Lib.hid d
  have HT := Lib.hid hT
  have HE := Lib.hid hE
  have HW1 := Lib.hid hW1
  have c012 := HBD.out
  rw [hW1] at c012
  obtain ⟨c0, c1, c2⟩ := c012
  clear d hE hW1 hT
  go_enter Tryz.func16, Tryz.ntmps16
  go_wp2_with fail
  clear c0 c1 c2
  go_loopw [28] (fun s wr => ∃ j : Nat, j ≤ D.ni ∧ s = I j ∧ Hid (Ext W1 wr) ∧ Hid (∀ i, i < j → prtE (D.P i) = 0)) (fun s _ => D.ni - (intOf s).toNat)
  case atStart => exact ⟨0, Nat.zero_le _, rfl, by rw [HW1.out]; exact Ext.refl _, fun i hi => absurd hi (by omega)⟩
  case round =>
    obtain ⟨j, hj, rfl, HX, HG⟩ := hrel
    by_cases hlt : j < D.ni
    · obtain ⟨b, o, ha, hba, hc⟩ := (HD.out.ext (HE.out.trans HX.out)).ports (by omega)
      obtain ⟨x0, x1, x2⟩ := hc j hlt
      have HP := Lib.hid (isPort_any (D.P j))
      clear hc
      have hlt' : (j : Int) < (D.ni : Int) := by omega
      by_cases hq : prtE (D.P j) = 0
      · have HG2 : Hid (∀ i, i < j + 1 → prtE (D.P i) = 0) := fun i hi => by
          by_cases h : i = j
          · subst h; exact hq
          · exact HG.out i (by omega)
        rw [show (prtE (D.P j) == 0) = true by simpa using hq] at HP
        clear hq
        go_wp2_with (go_at_call 51; (with_reducible refine (HP.out _).mono ?_); rintro e w1 ⟨rfl, hb1⟩)
        rw [← ha]
        go_roundw
        case rel => exact ⟨j + 1, by omega, by go_num, HX.out.trans ((Ext.alloc _ _).trans hb1), HG2⟩
        case measure => simp [intOf]; omega
      · have HC := Lib.hid (chk_port H0.out HG.out hlt hq)
        rw [show (prtE (D.P j) == 0) = false by simpa using hq] at HP
        clear hq
        go_wp2_with (go_at_call 51; (with_reducible refine (HP.out _).mono ?_); rintro e w1 ⟨rfl, hb1⟩)
        go_ret
        exact ⟨by rw [HC.out]; rfl, HE.out.trans (HX.out.trans ((Ext.alloc _ _).trans hb1))⟩
    · obtain rfl : j = D.ni := by omega
      have HXa := HX
      have HPo := HG
      clear HX HG
      obtain ⟨c0, c1, c2⟩ := HBD.out.ext HXa.out
      go_wp2_with fail
      clear c0 c1 c2
      go_loopw [40] (fun s wr => ∃ j : Nat, j ≤ D.nb ∧ s = I j ∧ Hid (Ext W1 wr) ∧ Hid (∀ i, i < j → blkE D (D.B i) = 0)) (fun s _ => D.nb - (intOf s).toNat)
      case atStart => exact ⟨0, Nat.zero_le _, rfl, HXa, fun i hi => absurd hi (by omega)⟩
      case round =>
        obtain ⟨j, hj, rfl, HX, HG⟩ := hrel
        by_cases hlt : j < D.nb
        · have dd := HD.out.ext (HE.out.trans HX.out)
          obtain ⟨b, o, ha, hba, hc⟩ := dd.blocks (by omega)
          obtain ⟨x0, x1, x2, x3, x4, x5⟩ := hc j hlt
          have HB : Hid (∀ w', Ext wr w' → Calls Tryz.prog 52 #[.agg #[.slice p.AI D.ni p.cI, .slice (some ⟨b, o, none⟩) D.nb p.cB, .slice p.AO D.no p.cO], bkv (D.B j).k (p.AA j) (D.B j).n (p.cA j) (D.B j).vn (D.B j).ve (D.B j).un (D.B j).ue] w' fun e w'' => e = .returned (errv (blkE D (D.B j))) ∧ Ext w' w'') :=
            fun w' e => by rw [← ha]; exact checkBlock_any (p := p) (HT.out.ext (HE.out.trans (HX.out.trans e))) ((dd.ext e).args j hlt).1 ((dd.ext e).args j hlt).2
          have hsz := HX.out.size
          obtain ⟨c0, c1, c2⟩ := HBD.out.ext HX.out
          have hz2 : w.heap.size < wr.heap.size := by omega
          clear hc dd
          have hlt' : (j : Int) < (D.nb : Int) := by omega
          by_cases hq : blkE D (D.B j) = 0
          · have HG2 : Hid (∀ i, i < j + 1 → blkE D (D.B i) = 0) := fun i hi => by
              by_cases h : i = j
              · subst h; exact hq
              · exact HG.out i (by omega)
            rw [hq, errv_z] at HB
            clear hq
            go_wp2_with (go_at_call 52; (with_reducible refine (HB.out _ (Ext.alloc _ _)).mono ?_); rintro e w1 ⟨rfl, hb1⟩)
            rw [← ha]
            go_roundw
            case rel => exact ⟨j + 1, by omega, by go_num, HX.out.trans ((Ext.alloc _ _).trans hb1), HG2⟩
            case measure => simp [intOf]; omega
          · have HC := Lib.hid (chk_blk H0.out HPo.out HG.out hlt hq)
            rw [errv_n hq] at HB
            have HC2 := Lib.hid (errv_n (k := chk D) (by rw [HC.out]; exact hq))
            clear hq
            generalize blkE D (D.B j) = eb at *
            go_wp2_with (go_at_call 52; (with_reducible refine (HB.out _ (Ext.alloc _ _)).mono ?_); rintro e w1 ⟨rfl, hb1⟩)
            go_ret
            exact ⟨by rw [HC2.out, HC.out]; rfl, HE.out.trans (HX.out.trans ((Ext.alloc _ _).trans hb1))⟩
        · obtain rfl : j = D.nb := by omega
          have HXb := HX
          have HBl := HG
          clear HX HG HXa
          obtain ⟨c0, c1, c2⟩ := HBD.out.ext HXb.out
          have HWF := Lib.hid (wf_of H0.out HBl.out)
          have HAI := Lib.hid (areIndices_any (c := p.cO) (D.nb : Int) (HD.out.ext (HE.out.trans HXb.out)).outs (HD.out.lo))
          by_cases hq : fstE D.no (fun i => inE D.nb (D.O i)) = 0
          · have HC := Lib.hid (chk_cyc H0.out HPo.out HBl.out hq)
            rw [show (fstE D.no (fun i => inE D.nb (D.O i)) == 0) = true by simpa using hq] at HAI
            clear hq
            have ho := ord_le D
            have hd := del_le D
            have HO : Hid (∀ w', Ext W1 w' → Calls Tryz.prog 54 #[dgv D p] w' (LsR (ordL D) w')) := fun w' e => order_any (HD.out.ext (HE.out.trans e)) HWF.out
            have HL : Hid (∀ w', Ext W1 w' → Calls Tryz.prog 55 #[dgv D p] w' (LsR (delL D) w')) := fun w' e => delays_any (HD.out.ext (HE.out.trans e)) (by omega)
            generalize ordL D = L1 at *
            generalize delL D = L2 at *
            go_upto_region 18 with (go_at_call 53; (with_reducible refine HAI.out.mono ?_); rintro e w1 ⟨rfl, hb1⟩)
            have HX1 := Lib.hid (HXb.out.trans hb1)
            have HS : Hid (∀ w', Ext w1 w' → w'.cell? ⟨w.heap.size, 0, none⟩ = some (.slice p.AI D.ni p.cI) ∧ w'.cell? ⟨w.heap.size, 1, none⟩ = some (.slice p.AB D.nb p.cB) ∧ w'.cell? ⟨w.heap.size, 2, none⟩ = some (.slice p.AO D.no p.cO)) := fun w' e => by
              obtain ⟨c0, c1, c2⟩ := HBD.out.ext (HX1.out.trans e)
              exact ⟨c0, c1, c2⟩
            clear c0 c1 c2 hb1
            obtain ⟨c0, c1, c2⟩ := HS.out _ (Ext.refl _)
            have hwr : IntKind.i64.wrap ((L1.length : Int) + (L2.length : Int)) = (L1.length : Int) + (L2.length : Int) := IntWalk.i64_in _ (by omega)
            by_cases hcy : L1.length + L2.length < D.nb
            all_goals
              (first | rw [if_pos hcy] at HC | rw [if_neg hcy] at HC)
              (first | (have hcz : (L1.length : Int) + (L2.length : Int) < (D.nb : Int) := by omega) | (have hcz : ¬ (L1.length : Int) + (L2.length : Int) < (D.nb : Int) := by omega))
              go_region_held3 (fun w' => w'.cell? ⟨w.heap.size, 0, none⟩ = some (.slice p.AI D.ni p.cI) ∧ w'.cell? ⟨w.heap.size, 1, none⟩ = some (.slice p.AB D.nb p.cB) ∧ w'.cell? ⟨w.heap.size, 2, none⟩ = some (.slice p.AO D.no p.cO)) (first | with_reducible assumption | exact HS.out _ (by (with_reducible (repeat (first | exact Ext.refl _ | assumption | (refine Ext.toSet ?_ (by omega)) | refine Ext.toAlloc ?_ | refine Ext.toDrew ?_ | refine Ext.toDrewN ?_ | refine Ext.trans ?_ (by assumption)))); (first | done | fail "no")))
                (first
                  | (go_at_call 54; (with_reducible refine (HO.out _ (HX1.out.trans (by (with_reducible (repeat (first | exact Ext.refl _ | assumption | (refine Ext.toSet ?_ (by omega)) | refine Ext.toAlloc ?_ | refine Ext.toDrew ?_ | refine Ext.toDrewN ?_ | refine Ext.trans ?_ (by assumption)))); (first | done | fail "no")))).mono ?_); rintro e5 w5 ⟨A5, k5, rfl, _, hx5⟩; obtain ⟨q0, q1, q2⟩ := HS.out w5 (by (with_reducible (repeat (first | exact Ext.refl _ | assumption | (refine Ext.toSet ?_ (by omega)) | refine Ext.toAlloc ?_ | refine Ext.toDrew ?_ | refine Ext.toDrewN ?_ | refine Ext.trans ?_ (by assumption)))); (first | done | fail "no")))
                  | (go_at_call 55; (with_reducible refine (HL.out _ (HX1.out.trans (by (with_reducible (repeat (first | exact Ext.refl _ | assumption | (refine Ext.toSet ?_ (by omega)) | refine Ext.toAlloc ?_ | refine Ext.toDrew ?_ | refine Ext.toDrewN ?_ | refine Ext.trans ?_ (by assumption)))); (first | done | fail "no")))).mono ?_); rintro e6 w6 ⟨A6, k6, rfl, _, hx6⟩; obtain ⟨p0, p1, p2⟩ := HS.out w6 (by (with_reducible (repeat (first | exact Ext.refl _ | assumption | (refine Ext.toSet ?_ (by omega)) | refine Ext.toAlloc ?_ | refine Ext.toDrew ?_ | refine Ext.toDrewN ?_ | refine Ext.trans ?_ (by assumption)))); (first | done | fail "no"))))
              all_goals
                go_wp2_with fail
                go_ret
                exact ⟨by rw [HC.out]; rfl, HE.out.trans (HX1.out.trans (by (with_reducible (repeat (first | exact Ext.refl _ | assumption | (refine Ext.toSet ?_ (by omega)) | refine Ext.toAlloc ?_ | refine Ext.toDrew ?_ | refine Ext.toDrewN ?_ | refine Ext.trans ?_ (by assumption)))); (first | done | fail "no")))⟩
          · have HC := Lib.hid (chk_out H0.out HPo.out HBl.out hq)
            rw [show (fstE D.no (fun i => inE D.nb (D.O i)) == 0) = false by simpa using hq] at HAI
            clear hq
            go_wp2_with (go_at_call 53; (with_reducible refine HAI.out.mono ?_); rintro e w1 ⟨rfl, hb1⟩)
            go_ret
            exact ⟨by rw [HC.out]; rfl, HE.out.trans (HXb.out.trans hb1)⟩
theorem check_any {w : World} {D : Dia} {p : Pl} (d : Dm w D p) (hT : Tabs w) : Calls Tryz.prog 16 #[dgv D p] w fun e w' => e = .returned (errv (chk D)) ∧ Ext w w' := by
  by_cases h : 16 < D.ni ∨ 64 < D.nb ∨ 16 < D.no
  · rw [chk_large h]; exact check_large h d.li d.lb d.lo
  · exact check_in d hT h
end

/-! ### Dgj -/
section
open Go Go.RowKit

theorem appM {ops : Array Oper} {rest : List Oper} {o : Oper} {a : Act} {w : World} {Q : Exit → Act → World → Prop} (hgd : o.guard = none) (s x : Operand) (ho : o.op = .call { callee := .builtin .append, args := #[s, x], argTypes := #[24, 24] })
    (base : Nat) (A : Option Addr) (c : Nat) (L : List Nat) (hs : a.eval s = .slice A L.length c) (hown : OwL w base A c L) (A' : Option Addr) (m c' : Nat) (f : Nat → Int) (hx : a.eval x = .slice A' m c') (r : Ri w A' m f) (h0 : A' = none → c' = 0)
    (V : List Nat) (hV : V.length = m) (hf : ∀ j, j < m → f j = ((V.getD j 0 : Nat) : Int)) (hn : L.length + m ≤ 1099511627776) (hbase : base ≤ w.heap.size)
    (h : ∀ B e w', OwL w' base B e (L ++ V) → w.grownBy w' (Value.slice A L.length c).ownBlock → ((Value.slice B (L ++ V).length e).ownBlock = (Value.slice A L.length c).ownBlock ∨ (Value.slice B (L ++ V).length e).ownBlock = some w.heap.size) →
      wpList Tryz.prog ops Q rest (a.put o.dst (.slice B (L ++ V).length e)) w') : wpList Tryz.prog ops Q (o :: rest) a w := by
  obtain ⟨i, hi, hz, h1, hb⟩ := info_parts infoI
  have form : ∀ (v' : Value) (w' : World), w'.ownsRow base 3 1 v' (L ++ V).length (nI (L ++ V)) → ∃ B e, v' = .slice B (L ++ V).length e := fun v' w' hv => by
    obtain ⟨_, ⟨rfl, e0⟩ | ⟨g, cap, cur, rfl, _⟩⟩ := hv
    · exact ⟨none, 0, by rw [e0]⟩
    · exact ⟨_, _, rfl⟩
  cases A' with
  | none =>
    have hm : m = 0 := by
      rcases Nat.eq_zero_or_pos m with h | h
      · exact h
      · obtain ⟨b, o, e, _⟩ := r h; cases e
    subst hm
    have hV' : V = [] := List.eq_nil_of_length_eq_zero hV
    subst hV'
    rw [h0 rfl] at hx
    refine wpList_append_own_none hgd s x _ ho base 3 i 1 Tryz.underlying24 hi _ L.length (nI L) hs hown hx ?_
    have := h A c w (by rw [List.append_nil]; exact hown) ⟨rfl, rfl, rfl, Nat.le_refl _, fun _ _ _ => rfl⟩ (.inl (by rw [List.append_nil]))
    rw [List.append_nil] at this
    exact this
  | some ad =>
    have hnews : ∀ j u, (nI V)[j]? = some u → w.cell? (ad.add j) = some u := fun j u hj => by
      have hjm : j < m := by
        rcases Nat.lt_or_ge j m with h | h
        · exact h
        · rw [List.getElem?_eq_none (by simp [nI]; omega)] at hj; cases hj
      obtain ⟨b, o, e, hb, hc⟩ := r (by omega)
      obtain rfl := Option.some.inj e
      have hjV : j < V.length := by omega
      have : u = I (V.getD j 0 : Nat) := by
        simp [nI, List.getElem?_eq_getElem hjV] at hj
        rw [← hj]; simp [List.getD, List.getElem?_eq_getElem hjV]
      have hadd : (⟨b, o, none⟩ : Addr).add j = ⟨b, o + j, none⟩ := by unfold Addr.add; split <;> simp_all
      rw [hadd, hc j hjm, this, hf j hjm]
    refine wpList_plain hgd fun _ hK => ?_
    obtain ⟨v', w', hr, h2, h3, _, h5⟩ := run_append_own_at (P := Tryz.prog) w base 24 o.type 3 i _ 1 8 Tryz.underlying24 hi hz h1 hb rfl (by omega) _ L.length _ hown ad m c' (nI V) (by simp [nI, hV]) hnews
      (by intro u hu; simp [nI] at hu; obtain ⟨_, _, rfl⟩ := hu; rfl) (by unfold maxLen; omega) (by omega) hbase
    have e1 : L.length + m = (L ++ V).length := by simp [hV]
    rw [e1, show nI L ++ nI V = nI (L ++ V) by simp [nI]] at h2
    obtain ⟨B, e, rfl⟩ := form v' w' h2
    unfold Oper.wp execOp
    simp only [ho, resolve, invoke, builtin, Sem.run_bind, Sem.run_pure, Result.andThen_ok, List.map_toArray, List.map_cons, List.map_nil, hs, hx, hr]
    exact hK _ _ (h B e w' h2 h3 h5)

/-- A list that is read: its places. -/
def Rl (w : World) (A : Option Addr) (c : Nat) (L : List Nat) : Prop := Ri w A L.length (fun i => ((L.getD i 0 : Nat) : Int)) ∧ (A = none → c = 0)
theorem Rl.ext {w w' : World} {A : Option Addr} {c : Nat} {L : List Nat} (h : Rl w A c L) (e : Ext w w') : Rl w' A c L := ⟨h.1.ext e, h.2⟩
theorem OwL.rl {w : World} {base c : Nat} {A : Option Addr} {L : List Nat} (h : OwL w base A c L) : Rl w A c L := ⟨h.ri, fun hA => by
  obtain ⟨_, ⟨e, h0⟩ | ⟨g, cap, cur, e, _⟩⟩ := h
  · injection e
  · subst hA; injection e with e1; cases e1⟩

set_option maxRecDepth 100000 in
set_option maxHeartbeats 1000000 in
theorem cloneL_any {w : World} {A : Option Addr} {c : Nat} {L : List Nat} (r : Rl w A c L) (hn : L.length ≤ 1000) :
    Calls Tryz.prog 39 #[.slice A L.length c] w (LsR L w) := by
  have hnil : ∀ (w : World) (a : Option Addr) (n c n' c' : Nat), (binOp .eql 24 (.slice a n c) (.slice none n' c')).run Tryz.prog w = .ok (.bool a.isNone) w := fun w a n c n' c' => Lib.run_eql_slice_nil w _ _ a n c n' c' Tryz.underlying24
  cases A with
  | none =>
    have h0 : L = [] := by
      rcases Nat.eq_zero_or_pos L.length with h | h
      · exact List.eq_nil_of_length_eq_zero h
      · obtain ⟨b, o, e, _⟩ := r.1 h; cases e
    subst h0
    have R := Lib.hid r; clear r
    go_enter Tryz.func39, Tryz.ntmps39
    go_wp2_with fail
    go_ret
    exact ⟨none, 0, rfl, OwL.nil _ _, Ext.refl _⟩
  | some ad =>
    have R := Lib.hid (r.ext (Ext.alloc w (.cells #[] 3))); clear r
    have HO : Hid (OwL (w.alloc (.cells #[] 3)) w.heap.size (some ⟨w.heap.size, 0, none⟩) 0 []) := World.ownsRow_made w #[] 0 (Nat.le_refl _) (Nat.zero_le _) rfl
    go_enter Tryz.func39, Tryz.ntmps39
    go_wp2_with (at_builtin; refine appM rfl _ _ rfl w.heap.size (some ⟨w.heap.size, 0, none⟩) 0 [] rfl HO.out _ L.length c _ rfl R.out.1 R.out.2 L rfl (fun _ _ => rfl) (by simp; omega) (by simp) ?_; intro B e w1 hown hgrow hat; have O1 := Lib.hid hown; have G1 := Lib.hid hgrow; clear hown hgrow hat)
    go_ret
    exact ⟨B, e, rfl, O1.out, Below.grown (Ext.alloc w _) G1.out (by simp) (fun k hk => by simp [Value.ownBlock] at hk; omega)⟩
end

/-! ### Dgk -/
section
open Go Go.RowKit

/-- What is asked of the library's Sort. -/
def SortC : Prop := ∀ (w : World) (base c : Nat) (A : Option Addr) (L S : List Nat), OwL w base A c L → S.Perm L → S.Pairwise (· < ·) → L.length ≤ 1000 →
  Calls Tryz.prog 79 #[.slice A L.length c] w fun e w' => e = .returned (.tuple #[]) ∧ OwL w' base A c S ∧ w.grownBy w' (Value.slice A L.length c).ownBlock
/-- What is asked of the way of going on, in worlds that grew from w. -/
def NextC (nb : Nat) (N : Nx) (g : FuncId) (cb : Array Value) (w : World) : Prop := ∀ (i : Nat) (w' : World), i < nb → Ext w w' → Calls Tryz.prog g (#[I i] ++ cb) w' (SrP (N.nn i) (fun j => ((N.nx i j : Nat) : Int)) w')

theorem OwL.keep {w w' : World} {base c : Nat} {A : Option Addr} {L : List Nat} {v : Value} (h : OwL w base A c L) (e : w.grownBy w' v.ownBlock) (hne : ∀ k, (Value.slice A L.length c).ownBlock = some k → v.ownBlock ≠ some k) : OwL w' base A c L := by
  refine World.ownsRow.kept h e ?_
  cases hv : (Value.slice A L.length c).ownBlock with
  | none => simp
  | some k => right; intro q; exact hne k hv q.symm
theorem ownBlock_len (A : Option Addr) (n m c d : Nat) : (Value.slice A n c).ownBlock = (Value.slice A m d).ownBlock := by cases A <;> rfl
theorem OwL.pop {w : World} {base c : Nat} {A : Option Addr} {W : List Nat} {i : Nat} (h : OwL w base A c (W ++ [i])) : OwL w base A c W := by
  obtain ⟨hl, ⟨e, h0⟩ | ⟨g, cap, cur, e, a, b, c1, d, f, ht⟩⟩ := h
  · simp at h0
  · injection e with e1 e2 e3
    refine ⟨by simp [nI], .inr ⟨g, cap, cur, by rw [e1, e3], a, b, by simp at c1; omega, d, f, ?_⟩⟩
    have : cur.toList.take (W.length * 1) = (cur.toList.take ((W ++ [i]).length * 1)).take (W.length * 1) := by rw [List.take_take]; congr 1; simp
    rw [this, ht]
    simp [nI]
/-- What the search keeps. -/
structure RcM (W1 w : World) (gl : Nat) (nb : Nat) (N : Nx) (st F : Nat → Bool) (A : Option Addr) (c : Nat) (L : List Nat) (B : Option Addr) (e : Nat) (W : List Nat) : Prop where
  ext : Ext W1 w
  glz : W1.heap.size = gl
  own : OwL w (gl + 1) A c L
  wait : OwL w (gl + 1) B e W
  apart : ∀ k, (Value.slice A L.length c).ownBlock = some k → (Value.slice B W.length e).ownBlock ≠ some k
  row : w.rowIs gl 4 nb (fun i => .bool (F i))
  dfs : Dfs nb N st F L W
  few : W.length ≤ 64 + 2 * L.length
  sz : L.length + cnt nb (fun i => !F i) = nb
theorem RcM.skip {W1 w w' : World} {gl nb : Nat} {N : Nx} {st F : Nat → Bool} {A B : Option Addr} {c e i : Nat} {L W : List Nat} (h : RcM W1 w gl nb N st F A c L B e (W ++ [i])) (x : Ext w w') (hf : F i = true) : RcM W1 w' gl nb N st F A c L B e W where
  ext := h.ext.trans x
  glz := h.glz
  own := h.own.ext x
  wait := h.wait.pop.ext x
  apart := fun k hk => by rw [ownBlock_len B W.length (W ++ [i]).length e e]; exact h.apart k hk
  row := h.row.ext x
  dfs := h.dfs.skip hf
  few := by have := h.few; simp at this; omega
  sz := h.sz
/-- The store to found. -/
theorem RcM.mark {W1 w : World} {gl nb : Nat} {N : Nx} {st F : Nat → Bool} {A B : Option Addr} {c e i : Nat} {L W : List Nat} (h : RcM W1 w gl nb N st F A c L B e (W ++ [i])) :
    Ext W1 (w.setCell ⟨gl, i, none⟩ (.bool true)) ∧ OwL (w.setCell ⟨gl, i, none⟩ (.bool true)) (gl + 1) A c L ∧ OwL (w.setCell ⟨gl, i, none⟩ (.bool true)) (gl + 1) B e W ∧
    (w.setCell ⟨gl, i, none⟩ (.bool true)).rowIs gl 4 nb (fun x => .bool (if x = i then true else F x)) := by
  have gr : w.grownBy (w.setCell ⟨gl, i, none⟩ (.bool true)) (some gl) := ⟨rfl, rfl, rfl, by simp, fun k _ hk => Below.heap_setCell _ _ _ k (fun q => hk (by simp [q]))⟩
  refine ⟨h.ext.set (by show _ ≤ gl; rw [h.glz]; omega) _, h.own.off (g := gl) gr (by omega), h.wait.pop.off (g := gl) gr (by omega), (h.row.set i (.bool true)).congr fun x _ => ?_⟩
  by_cases q : x = i <;> simp [q]
theorem RcM.take {W1 w wa wb wc wd : World} {gl nb : Nat} {N : Nx} {st F : Nat → Bool} {A B C E : Option Addr} {c e i k d : Nat} {L W V : List Nat} (h : RcM W1 w gl nb N st F A c L B e (W ++ [i])) (hf : F i = false)
    (xa : Ext (w.setCell ⟨gl, i, none⟩ (.bool true)) wa)
    (oL : OwL wb (gl + 1) C k (L ++ [i])) (gL : wa.grownBy wb (Value.slice A L.length c).ownBlock) (aL : (Value.slice C (L ++ [i]).length k).ownBlock = (Value.slice A L.length c).ownBlock ∨ (Value.slice C (L ++ [i]).length k).ownBlock = some wa.heap.size)
    (xc : Ext wb wc)
    (oW : OwL wd (gl + 1) E d (W ++ V)) (gW : wc.grownBy wd (Value.slice B W.length e).ownBlock) (aW : (Value.slice E (W ++ V).length d).ownBlock = (Value.slice B W.length e).ownBlock ∨ (Value.slice E (W ++ V).length d).ownBlock = some wc.heap.size)
    (hV : ∀ x, x ∈ V ↔ ∃ j, j < N.nn i ∧ x = N.nx i j) (hlt : ∀ j, j < N.nn i → N.nx i j < nb) (h2 : V.length ≤ 2) :
    RcM W1 wd gl nb N st (fun x => if x = i then true else F x) C k (L ++ [i]) E d (W ++ V) := by
  obtain ⟨m1, m2, m3, m4⟩ := h.mark
  have hi : i < nb := h.dfs.lt i (.inr (by simp))
  have oLa := m2.ext xa
  have oWa := m3.ext xa
  have hap : ∀ q, (Value.slice B W.length e).ownBlock = some q → (Value.slice A L.length c).ownBlock ≠ some q := fun q hq hq' => h.apart q hq' (by rw [ownBlock_len B _ W.length e e]; exact hq)
  have oWb : OwL wb (gl + 1) B e W := oWa.keep gL hap
  have eb : Ext W1 wb := grow_ext (m1.trans xa) oLa (by rw [h.glz]; omega) gL
  have oWc := oWb.ext xc
  have ed : Ext W1 wd := grow_ext (eb.trans xc) oWc (by rw [h.glz]; omega) gW
  -- the new list lies apart from what waits
  have hap2 : ∀ q, (Value.slice C (L ++ [i]).length k).ownBlock = some q → (Value.slice B W.length e).ownBlock ≠ some q := fun q hq hq' => by
    rcases aL with a | a
    · exact hap q hq' (by rw [← a]; exact hq)
    · rw [a] at hq; injection hq with hq; have := (oWa.lt q hq').2; omega
  refine ⟨ed, h.glz, (oL.ext xc).keep gW hap2, oW, fun q hq hq' => ?_, ?_, h.dfs.take hf hV hlt, ?_, ?_⟩
  · rcases aW with a | a
    · exact hap2 q hq (by rw [← a]; exact hq')
    · rw [a] at hq'; injection hq' with hq'
      have := ((oL.ext xc).lt q hq).2; omega
  · have r1 := (m4.ext xa).of_block (gL.block gl (m4.ext xa).lt (fun q => by have := (oLa.lt gl q.symm).1; omega))
    exact (r1.ext xc).of_block (gW.block gl (r1.ext xc).lt (fun q => by have := (oWc.lt gl q.symm).1; omega))
  · have := h.few; simp at this ⊢; omega
  · have := cnt_put (n := nb) (j := i) (p := fun x => !(if x = i then true else F x)) (q := fun x => !F x) hi (by simp) (by simp [hf]) (fun x hx => by simp [hx])
    have := h.sz
    simp only [List.length_append, List.length_singleton]
    omega
theorem RcM.mid {W1 w wa wb wc : World} {gl nb : Nat} {N : Nx} {st F : Nat → Bool} {A B : Option Addr} {c e i : Nat} {L W : List Nat} (h : RcM W1 w gl nb N st F A c L B e (W ++ [i]))
    (xa : Ext (w.setCell ⟨gl, i, none⟩ (.bool true)) wa) (gL : wa.grownBy wb (Value.slice A L.length c).ownBlock) (xc : Ext wb wc) : OwL wc (gl + 1) B e W := by
  obtain ⟨m1, m2, m3, m4⟩ := h.mark
  have hap : ∀ q, (Value.slice B W.length e).ownBlock = some q → (Value.slice A L.length c).ownBlock ≠ some q := fun q hq hq' => h.apart q hq' (by rw [ownBlock_len B _ W.length e e]; exact hq)
  exact ((m3.ext xa).keep gL hap).ext xc
theorem RcM.len {W1 w : World} {gl nb : Nat} {N : Nx} {st F : Nat → Bool} {A B : Option Addr} {c e : Nat} {L W : List Nat} (h : RcM W1 w gl nb N st F A c L B e W) : L.length ≤ nb := by have := h.sz; omega

theorem OwL.last {w : World} {base c : Nat} {A : Option Addr} {W : List Nat} {i : Nat} (h : OwL w base A c (W ++ [i])) : ∃ g, A = some ⟨g, 0, none⟩ ∧ w.cell? ⟨g, W.length, none⟩ = some (I i) ∧ W.length + 1 ≤ c ∧ c ≤ maxLen := by
  have h' := h
  obtain ⟨_, ⟨e, h0⟩ | ⟨g, cap, cur, e, _, _, h3, h4, _⟩⟩ := h'
  · simp at h0
  · injection e with e1 e2 e3
    subst e1; subst e3
    refine ⟨g, rfl, ?_, by simp at h3; omega, h4⟩
    have := World.ownsRow.cellAt h W.length (by simp)
    rw [this]; simp [nI]
/-- The marked blocks of the search are those that are reached. -/
theorem RcM.end_ {W1 w : World} {gl nb : Nat} {N : Nx} {st F R : Nat → Bool} {A B : Option Addr} {c e : Nat} {L : List Nat} (h : RcM W1 w gl nb N st F A c L B e []) (hR : IsR nb N st R) : (mkL nb R).Perm L := by
  have hF := h.dfs.fin
  have e : mkL nb R = mkL nb F := mkL_congr fun i _ => hR.uniq hF i
  rw [e]
  exact perm_mkL h.dfs.mem (fun i hi => h.dfs.lt i (.inl hi)) h.dfs.nodup

end

end Go.Proofs.YtkocmdpfknoiaaaGreatDoor
