/- Diagrams: has, blocks, Order, Delays by the reference. -/
import Derived.Test.YtcdkkohklhmpgaaGreatDoorDgt
namespace Go.Proofs.YtcdkkohklhmpgaaGreatDoor

/-! ### Dgu -/
section
open Go Go.RowKit

theorem inL_iff {L : List Nat} {n : Nat} : inL L n = true ↔ n ∈ L := by simp [inL]
set_option maxRecDepth 100000 in
set_option maxHeartbeats 1000000 in
theorem has_any {w : World} {A : Option Addr} {c : Nat} {L : List Nat} (r : Rl w A c L) (hL : L.length ≤ 1000) (n : Nat) : Calls Tryz.prog 194 #[.slice A L.length c, I n] w fun e w' => e = .returned (.bool (inL L n)) ∧ Ext w w' := by
  have R := Lib.hid r; clear r
  obtain ⟨res, hres⟩ : ∃ res, inL L n = res := ⟨_, rfl⟩
  have HR := Lib.hid hres
  rw [hres]; clear hres
  go_enter Tryz.func194, Tryz.ntmps194
  go_wp2_with fail
  go_loopw [9] (fun s wr => ∃ j : Nat, j ≤ L.length ∧ s = I j ∧ Hid (Ext w wr) ∧ Hid (∀ i, i < j → L.getD i 0 ≠ n)) (fun s _ => L.length - (intOf s).toNat)
  case atStart => exact ⟨0, Nat.zero_le _, rfl, Ext.refl _, fun i hi => absurd hi (by omega)⟩
  case round =>
    obtain ⟨j, hj, rfl, HX, HG⟩ := hrel
    by_cases hlt : j < L.length
    · obtain ⟨b, o, rfl, hba, ca⟩ := R.out.1 (by omega)
      obtain ⟨y, hy⟩ : ∃ y, L.getD j 0 = y := ⟨_, rfl⟩
      have xa : wr.cell? ⟨b, o + j, none⟩ = some (I (y : Nat)) := by rw [← hy]; exact (HX.out.old.1 _ _ hba).trans (ca j hlt)
      have HY := Lib.hid hy
      clear ca hy
      by_cases hq : y = n
      · have hr : res = true := by
          rw [← HR.out, inL_iff, ← hq, ← HY.out, List.getD_eq_getElem?_getD, List.getElem?_eq_getElem hlt]; exact List.getElem_mem hlt
        subst hr
        have hq' : ((y : Int) == (n : Int)) = true := by simp [hq]
        clear hq
        go_wp2_with fail
        go_ret
        exact ⟨rfl, HX.out⟩
      · have HG2 : Hid (∀ i, i < j + 1 → L.getD i 0 ≠ n) := fun i hi => by
          by_cases h : i = j
          · subst h; rw [HY.out]; exact hq
          · exact HG.out i (by omega)
        have hq' : ((y : Int) == (n : Int)) = false := by simp; omega
        clear hq
        go_wp2_with fail
        go_roundw
        case rel => exact ⟨j + 1, by omega, by go_num, HX, HG2⟩
        case measure => simp [intOf]; omega
    · obtain rfl : j = L.length := by omega
      have hr : res = false := by
        rw [← HR.out]
        cases h : inL L n with
        | false => rfl
        | true =>
          obtain ⟨i, hi, e⟩ := List.getElem_of_mem (inL_iff.1 h)
          exact absurd (by rw [List.getD_eq_getElem?_getD, List.getElem?_eq_getElem hi]; exact e) (HG.out i hi)
      subst hr
      go_wp2_with fail
      go_ret
      exact ⟨rfl, HX.out⟩
set_option maxRecDepth 100000 in
set_option maxHeartbeats 1000000 in
theorem blocks_any (k : Int) (A : Option Addr) (n c : Nat) (f : Nat → Int) (vn ve un ue : Int) (w : World) (r : Ri w A n f) (hA : A = none → c = 0) :
    Calls Tryz.prog 195 #[bkv k A n c vn ve un ue] w (SrP (if k = 0 then 0 else n) f w) := by
  have HA0 := Lib.hid hA; clear hA
  by_cases h : k = 0
  · subst h
    have R := Lib.hid r; clear r
    go_enter Tryz.func195, Tryz.ntmps195
    go_wp2
    go_ret
    exact ⟨none, 0, rfl, Ri.none_, fun _ => rfl, (by repeat (first | exact Ext.refl _ | assumption | exact Ext.alloc _ _ | refine Ext.trans ?_ (by assumption) | refine Ext.trans ?_ (Ext.alloc _ _) | refine Ext.trans ?_ (Ext.drewN _ _) | refine Ext.trans ?_ (Ext.drew _)))⟩
  · have R := Lib.hid r; clear r
    have h' : (k == 0) = false := by simpa using h
    rw [if_neg h]
    clear h
    go_enter Tryz.func195, Tryz.ntmps195
    go_wp2
    go_ret
    exact ⟨A, c, rfl, R.out.ext (by repeat (first | exact Ext.refl _ | assumption | exact Ext.alloc _ _ | refine Ext.trans ?_ (by assumption) | refine Ext.trans ?_ (Ext.alloc _ _) | refine Ext.trans ?_ (Ext.drewN _ _) | refine Ext.trans ?_ (Ext.drew _))), HA0.out, (by repeat (first | exact Ext.refl _ | assumption | exact Ext.alloc _ _ | refine Ext.trans ?_ (by assumption) | refine Ext.trans ?_ (Ext.alloc _ _) | refine Ext.trans ?_ (Ext.drewN _ _) | refine Ext.trans ?_ (Ext.drew _)))⟩
set_option maxRecDepth 100000 in
set_option maxHeartbeats 1000000 in
theorem rdelays_any {w : World} {D : Dia} {p : Pl} (d : Dm w D p) (hnb : D.nb ≤ 1000000) : Calls Tryz.prog 130 #[dgv D p] w (LsR (delL D) w) := by
  have HBD := Lib.hid (Bd.new w D p 48)
  obtain ⟨W1, hW1⟩ : ∃ W1, W1 = w.alloc (.cells #[.slice p.AI D.ni p.cI, .slice p.AB D.nb p.cB, .slice p.AO D.no p.cO] 48) := ⟨_, rfl⟩
  have hE : Ext w W1 := by rw [hW1]; exact Ext.alloc _ _
  have hz1 : W1.heap.size = w.heap.size + 1 := by rw [hW1]; simp
  rw [← hW1] at HBD
  have HD := Lib.hid d
  have HE := Lib.hid hE
  have HW1 := Lib.hid hW1
  have c012 := HBD.out
  rw [hW1] at c012
  obtain ⟨c0, c1, c2⟩ := c012
  clear d hE hW1
  go_enter Tryz.func130, Tryz.ntmps130
  go_wp2_with fail
  clear c0 c1 c2
  go_loopw [3, 9] (fun s t wr => ∃ A c j, j ≤ D.nb ∧ s = .slice A (mkL j (isD D)).length c ∧ t = I j ∧ Hid (OwL wr (w.heap.size + 1) A c (mkL j (isD D))) ∧ Hid (Ext W1 wr)) (fun _ t _ => D.nb - (intOf t).toNat)
  case atStart => exact ⟨none, 0, 0, Nat.zero_le _, rfl, rfl, OwL.nil _ _, by rw [HW1.out]; exact Ext.refl _⟩
  case round =>
    obtain ⟨A, c, j, hj, rfl, rfl, HO, HX⟩ := hrel
    by_cases hlt : j < D.nb
    · have hlen : (mkL j (isD D)).length ≤ j := by rw [mkL_len]; exact cnt_le _ _
      obtain ⟨b, o, ha, hba, hc⟩ := (HD.out.ext (HE.out.trans HX.out)).blocks (by omega)
      obtain ⟨x0, x1, x2, x3, x4, x5⟩ := hc j hlt
      clear hc
      have hszr := HX.out.size
      have hltj : (j : Int) < (D.nb : Int) := by omega
      cases hq : isD D j with
      | false =>
        have hk : ((D.B j).k == 2) = false := hq
        have HM := Lib.hid (mkL_f hq)
        clear hq
        generalize (D.B j).k = kj at *
        go_wp2_with fail
        (try rw [← ha])
        go_roundw
        case rel => exact ⟨A, c, j + 1, by omega, by rw [HM.out], by go_num, by rw [HM.out]; exact HO.out.ext (Ext.alloc _ _), HX.out.trans (Ext.alloc _ _)⟩
        case measure => simp [intOf]; omega
      | true =>
        have hk : ((D.B j).k == 2) = true := hq
        have HM := Lib.hid (mkL_t hq)
        clear hq
        generalize (D.B j).k = kj at *
        generalize mkL j (isD D) = L at *
        go_wp2_with (at_builtin; refine appL rfl _ _ rfl (w.heap.size + 1) A c L rfl (HO.out.ext ((Ext.alloc _ _).trans (Ext.alloc _ _))) _ _ j rfl (by go_simp) (by omega) (by simp; omega) ?_; intro g cap w2 hown hgrow hat hlt; have G := Lib.hid (grow_ext (HX.out.trans ((Ext.alloc _ _).trans (Ext.alloc _ _))) (HO.out.ext ((Ext.alloc _ _).trans (Ext.alloc _ _))) (by omega) hgrow); have O2 := Lib.hid hown; clear hown hgrow hat)
        (try rw [← ha])
        go_roundw
        case rel => exact ⟨some ⟨g, 0, none⟩, cap, j + 1, by omega, by rw [HM.out]; simp, by go_num, by rw [HM.out]; exact O2.out, G.out⟩
        case measure => simp [intOf]; omega
    · obtain rfl : j = D.nb := by omega
      go_wp2_with fail
      go_ret
      exact ⟨A, c, rfl, HO.out.mono (by omega), HE.out.trans HX.out⟩

/-! ### Order -/
def okS (D : Dia) (L : List Nat) (i : Nat) : Nat → Bool := fun j => inL L (sr D i j) || isD D (sr D i j)
theorem allN_0 (q : Nat → Bool) : allN 0 q = true := rfl
theorem allN_s (n : Nat) (q : Nat → Bool) : allN (n + 1) q = (allN n q && q n) := by
  rw [Bool.eq_iff_iff, Bool.and_eq_true, allN_iff, allN_iff]
  exact ⟨fun h => ⟨fun i hi => h i (by omega), h n (by omega)⟩, fun h i hi => by
    by_cases e : i = n
    · subst e; exact h.2
    · exact h.1 i (by omega)⟩
theorem rdy_of {D : Dia} {L : List Nat} {i : Nat} (h1 : inL L i = false) (h2 : isD D i = false) : rdy D (inL L) i = allN (ns D i) (okS D L i) := by unfold rdy; rw [h1, h2]; rfl
theorem rdy_no1 {D : Dia} {L : List Nat} {i : Nat} (h : isD D i = true) : rdy D (inL L) i = false := by unfold rdy; rw [h]; simp
theorem rdy_no2 {D : Dia} {L : List Nat} {i : Nat} (h : inL L i = true) : rdy D (inL L) i = false := by unfold rdy; rw [h]; rfl
/-- What the reference's loop keeps. -/
structure ROrd (W w : World) (gl : Nat) (D : Dia) (A : Option Addr) (c : Nat) (L : List Nat) : Prop where
  ext : Ext W w
  glz : W.heap.size = gl
  own : OwL w gl A c L
  inv : OrdI D L
set_option maxRecDepth 100000 in
set_option maxHeartbeats 4000000 in
theorem rorder_any {w : World} {D : Dia} {p : Pl} (d : Dm w D p) (wf : WF D) : Calls Tryz.prog 129 #[dgv D p] w (LsR (ordL D) w) := by
  have hnb := wf.nb
  have HBD := Lib.hid (Bd.new w D p 48)
  obtain ⟨W1, hW1⟩ : ∃ W1, W1 = w.alloc (.cells #[.slice p.AI D.ni p.cI, .slice p.AB D.nb p.cB, .slice p.AO D.no p.cO] 48) := ⟨_, rfl⟩
  have hE : Ext w W1 := by rw [hW1]; exact Ext.alloc _ _
  have hz1 : W1.heap.size = w.heap.size + 1 := by rw [hW1]; simp
  rw [← hW1] at HBD
  have HD := Lib.hid d
  have HWF := Lib.hid wf
  have HE := Lib.hid hE
  have HST : Hid (ROrd W1 W1 (w.heap.size + 1) D none 0 []) := ⟨Ext.refl _, hz1, OwL.nil _ _, OrdI.nil D⟩
  have HW1 := Lib.hid hW1
  clear d wf hE
  rw [hW1] at HST
  clear hW1
  go_enter Tryz.func129, Tryz.ntmps129
  go_wp2_with fail
  go_loopw [3] (fun s wr => ∃ A c L, s = .slice A (List.length L) c ∧ Hid (ROrd W1 wr (w.heap.size + 1) D A c L)) (fun s _ => D.nb - lenV s)
  case atStart => exact ⟨none, 0, [], rfl, by rw [HW1.out]; exact HST⟩
  case round =>
    clear HST
    obtain ⟨A, c, L, rfl, H⟩ := hrel
    have hl := H.out.inv.le
    obtain ⟨c0, c1, c2⟩ := HBD.out.ext H.out.ext
    have hszr := H.out.ext.size
    have hlit : (0 : Int) ≤ (D.nb : Int) := by omega
    go_wp2_with fail
    clear c0 c1 c2
    go_loopw [4, 13] (fun f s wx => f = I (-1) ∧ ∃ j : Nat, j ≤ D.nb ∧ s = I j ∧ Hid (Ext wr wx) ∧ Hid (∀ i, i < j → rdy D (inL L) i = false)) (fun _ s _ => D.nb - (intOf s).toNat)
    case atStart => exact ⟨rfl, 0, Nat.zero_le _, rfl, Ext.refl _, fun i hi => absurd hi (by omega)⟩
    case round =>
      obtain ⟨rfl, j, hj, rfl, HX, HG⟩ := hrel
      by_cases hlt : j < D.nb
      · have dd := HD.out.ext (HE.out.trans (H.out.ext.trans HX.out))
        obtain ⟨b, o, ha, hba, hc⟩ := dd.blocks (by omega)
        obtain ⟨x0, x1, x2, x3, x4, x5⟩ := hc j hlt
        have HBK : Hid (∀ w' i, Ext wr w' → i < D.nb → w'.cell? ⟨b, o + i * 6, none⟩ = some (I (D.B i).k)) := fun w' i e hi => (e.old.1 _ _ hba).trans (hc i hi).1
        have hltj : (j : Int) < (D.nb : Int) := by omega
        have hsx := HX.out.size
        have HH : Hid (∀ w' n, Ext wr w' → Calls Tryz.prog 194 #[.slice A L.length c, I (n : Nat)] w' fun e w'' => e = .returned (.bool (inL L n)) ∧ Ext w' w'') := fun w' n e => has_any ((H.out.own.ext (HX.out.trans e)).rl) (by omega) n
        have HHJ := Lib.hid (fun w' => HH.out w' j)
        have HSR : Hid (∀ w', Ext wr w' → Calls Tryz.prog 195 #[bkv (D.B j).k (p.AA j) (D.B j).n (p.cA j) (D.B j).vn (D.B j).ve (D.B j).un (D.B j).ue] w' (SrP (ns D j) (D.B j).a w')) := fun w' e =>
          blocks_any _ _ _ _ _ _ _ _ _ w' ((dd.ext e).args j hlt).1 (dd.nA j hlt)
        clear hc dd
        cases hq : isD D j with
        | true =>
          have hk : ((D.B j).k == 2) = true := hq
          have HG2 : Hid (∀ i, i < j + 1 → rdy D (inL L) i = false) := fun i hi => by
            by_cases h : i = j
            · subst h; exact rdy_no1 hq
            · exact HG.out i (by omega)
          clear hq
          generalize (D.B j).k = kj at *
          go_wp2_with fail
          (try rw [← ha])
          go_roundw
          case rel => exact ⟨rfl, j + 1, by omega, by go_num, HX.out.trans (Ext.alloc _ _), HG2⟩
          case measure => simp [intOf]; omega
        | false =>
          have hk : ((D.B j).k == 2) = false := hq
          cases hp : inL L j with
          | true =>
            rw [hp] at HHJ
            have HG2 : Hid (∀ i, i < j + 1 → rdy D (inL L) i = false) := fun i hi => by
              by_cases h : i = j
              · subst h; exact rdy_no2 hp
              · exact HG.out i (by omega)
            clear hq hp
            generalize (D.B j).k = kj at *
            go_wp2_with (go_at_call 194; (with_reducible refine (HHJ.out _ (Ext.alloc _ _)).mono ?_); rintro e2 w2 ⟨rfl, y2⟩)
            (try rw [← ha])
            go_roundw
            case rel => exact ⟨rfl, j + 1, by omega, by go_num, HX.out.trans ((Ext.alloc _ _).trans y2), HG2⟩
            case measure => simp [intOf]; omega
          | false =>
            rw [hp] at HHJ
            have HRJ := Lib.hid (rdy_of hp hq)
            have hns := (HWF.out.ns2 hlt).1
            have HSX := Lib.hid (fun k (hk : k < ns D j) => HWF.out.src hlt hk)
            clear hq hp
            generalize (D.B j).k = kj at *
            generalize hnn : ns D j = nn at *
            clear hnn
            go_wp2_with (first
              | (go_at_call 194; (with_reducible refine (HHJ.out _ (Ext.alloc _ _)).mono ?_); rintro e2 w2 ⟨rfl, y2⟩; obtain ⟨yc, yf⟩ := y2.old)
              | (go_at_call 195; (with_reducible refine (HSR.out _ ((Ext.alloc _ _).trans y2)).mono ?_); rintro e3 w3 ⟨A3, c3, rfl, r3, _, y3⟩; have R3 := Lib.hid r3; clear r3))
            clear yc yf x0 x1 x2 x3 x4 x5
            have Y3 : Hid (Ext wr w3) := ((Ext.alloc _ _).trans y2).trans y3
            clear y2 y3
            go_loopw [7, 29] (fun rd s wy => ∃ k : Nat, k ≤ nn ∧ s = I k ∧ rd = .bool (allN k (okS D L j)) ∧ Hid (Ext w3 wy)) (fun _ s _ => nn - (intOf s).toNat)
            case atStart => exact ⟨0, Nat.zero_le _, rfl, by rw [allN_0], Ext.refl _⟩
            case round =>
              obtain ⟨k, hk2, rfl, rfl, HZ⟩ := hrel
              by_cases hltk : k < nn
              · obtain ⟨s1, s2, _⟩ := HSX.out k hltk
                have HAS := Lib.hid (allN_s k (okS D L j))
                obtain ⟨b3, o3, rfl, hb3, hc3⟩ := R3.out (by omega)
                have xa3 := (HZ.out.old.1 _ _ hb3).trans (hc3 k hltk)
                rw [s1] at xa3
                have xk := HBK.out _ (sr D j k) (Y3.out.trans HZ.out) s2
                obtain ⟨g0, g1, g2⟩ := HBD.out.ext (H.out.ext.trans (HX.out.trans (Y3.out.trans HZ.out)))
                have HH2 := Lib.hid (fun w' (e : Ext _ w') => HH.out w' (sr D j k) ((Y3.out.trans HZ.out).trans e))
                have hok : okS D L j k = (inL L (sr D j k) || isD D (sr D j k)) := rfl
                have HOK := Lib.hid hok
                have hisd : ((D.B (sr D j k)).k == 2) = isD D (sr D j k) := rfl
                have hltk' : (k : Int) < (nn : Int) := by omega
                have hs2 : ((sr D j k : Nat) : Int) < (D.nb : Int) := by omega
                generalize (D.B (sr D j k)).k = kk at *
                clear hok hc3 s1
                cases hq1 : allN k (okS D L j) with
                | false =>
                  rw [hq1] at HAS
                  clear hq1 hisd
                  go_wp2_with fail
                  go_roundw
                  case rel => exact ⟨k + 1, by omega, by go_num, by rw [HAS.out]; rfl, HZ⟩
                  case measure => simp [intOf]; omega
                | true =>
                  rw [hq1] at HAS
                  clear hq1
                  cases hq2 : isD D (sr D j k) with
                  | true =>
                    rw [hq2] at hisd HOK
                    rw [HOK.out] at HAS
                    clear hq2
                    go_wp2_with fail
                    (try rw [← ha])
                    go_roundw
                    case rel => exact ⟨k + 1, by omega, by go_num, by rw [HAS.out]; simp, HZ⟩
                    case measure => simp [intOf]; omega
                  | false =>
                    rw [hq2] at hisd HOK
                    rw [HOK.out] at HAS
                    clear hq2
                    generalize inL L (sr D j k) = q3 at *
                    go_wp2_with (go_at_call 194; (with_reducible refine (HH2.out _ (Ext.refl _)).mono ?_); rintro e2 w2 ⟨rfl, y2⟩)
                    (try rw [← ha])
                    go_roundw
                    case rel => exact ⟨k + 1, by omega, by go_num, by rw [HAS.out]; simp, HZ.out.trans y2⟩
                    case measure => simp [intOf]; omega
              · obtain rfl : k = nn := by omega
                have HALL := Lib.hid ((HX.out.trans Y3.out).trans HZ.out)
                cases hq : allN k (okS D L j) with
                | false =>
                  rw [hq] at HRJ
                  have HG2 : Hid (∀ i, i < j + 1 → rdy D (inL L) i = false) := fun i hi => by
                    by_cases h : i = j
                    · subst h; exact HRJ.out
                    · exact HG.out i (by omega)
                  clear hq
                  go_wp2_with fail
                  (try rw [← ha])
                  go_roundw
                  case rel => exact ⟨rfl, j + 1, by omega, by go_num, HALL, HG2⟩
                  case measure => simp [intOf]; omega
                | true =>
                  rw [hq] at HRJ
                  have HF := Lib.hid (fstI_hit HG.out hlt HRJ.out)
                  have hroom := H.out.inv.room hlt HRJ.out
                  have hszy := HALL.out.size
                  clear hq
                  go_wp2_with (at_builtin; refine appL rfl _ _ rfl (w.heap.size + 1) A c L rfl (H.out.own.ext (HALL.out.trans (Ext.alloc _ _))) _ _ j rfl (by go_simp) (by omega) (by simp; omega) ?_; intro g cap w2 hown hgrow hat hltg; have O2 := Lib.hid hown; have G2 := Lib.hid hgrow; clear hown hgrow hat)
                  (try rw [← ha])
                  go_roundw
                  case rel => exact ⟨some ⟨g, 0, none⟩, cap, L ++ [j], by simp, ⟨grow_ext (H.out.ext.trans (HALL.out.trans (Ext.alloc _ _))) (H.out.own.ext (HALL.out.trans (Ext.alloc _ _))) (by omega) G2.out, H.out.glz, O2.out, H.out.inv.app hlt HF.out HRJ.out⟩⟩
                  case measure => simp [lenV]; omega
      · obtain rfl : j = D.nb := by omega
        have HF := Lib.hid (H.out.inv.fin (fstI_none HG.out))
        go_wp2_with fail
        go_ret
        exact ⟨A, c, by rw [HF.out]; rfl, by rw [HF.out]; exact (H.out.own.ext HX.out).mono (by omega), HE.out.trans (H.out.ext.trans HX.out)⟩
end

/-! ### Dgv -/
section
open Go Go.RowKit

theorem ord_del_le (D : Dia) : (ordL D).length + (delL D).length ≤ D.nb := by
  have h := (ord_end D).1
  have h2 := h.len
  have h3 : cnt D.nb (isD D) ≤ cnt D.nb (fun i => !inL (ordL D) i) := cnt_mono fun i _ hd => by
    cases q : inL (ordL D) i with
    | false => rfl
    | true => have := (h.lt i q).2; rw [hd] at this; cases this
  unfold delL
  rw [mkL_len]; omega
set_option maxRecDepth 100000 in
set_option maxHeartbeats 1000000 in
theorem rcheck_large {w : World} {D : Dia} {p : Pl} (h : 16 < D.ni ∨ 64 < D.nb ∨ 16 < D.no) (l1 : D.ni ≤ maxLen) (l2 : D.nb ≤ maxLen) (l3 : D.no ≤ maxLen) : Calls Tryz.prog 48 #[dgv D p] w fun e w' => e = .returned (I 4) ∧ Ext w w' := by
  unfold maxLen at l1 l2 l3
  by_cases h1 : 16 < D.ni
  · have h1' : (16 : Int) < (D.ni : Int) := by omega
    clear h
    go_enter Tryz.func48, Tryz.ntmps48
    go_wp2_with fail
    go_ret
    exact ⟨rfl, (by repeat (first | exact Ext.refl _ | assumption | exact Ext.alloc _ _ | refine Ext.trans ?_ (by assumption) | refine Ext.trans ?_ (Ext.alloc _ _) | refine Ext.trans ?_ (Ext.drewN _ _) | refine Ext.trans ?_ (Ext.drew _)))⟩
  · have h1' : ¬ (16 : Int) < (D.ni : Int) := by omega
    by_cases h2 : 64 < D.nb
    · have h2' : (64 : Int) < (D.nb : Int) := by omega
      clear h
      go_enter Tryz.func48, Tryz.ntmps48
      go_wp2_with fail
      go_ret
      exact ⟨rfl, (by repeat (first | exact Ext.refl _ | assumption | exact Ext.alloc _ _ | refine Ext.trans ?_ (by assumption) | refine Ext.trans ?_ (Ext.alloc _ _) | refine Ext.trans ?_ (Ext.drewN _ _) | refine Ext.trans ?_ (Ext.drew _)))⟩
    · have h2' : ¬ (64 : Int) < (D.nb : Int) := by omega
      have h3' : (16 : Int) < (D.no : Int) := by omega
      clear h
      go_enter Tryz.func48, Tryz.ntmps48
      go_wp2_with fail
      go_ret
      exact ⟨rfl, (by repeat (first | exact Ext.refl _ | assumption | exact Ext.alloc _ _ | refine Ext.trans ?_ (by assumption) | refine Ext.trans ?_ (Ext.alloc _ _) | refine Ext.trans ?_ (Ext.drewN _ _) | refine Ext.trans ?_ (Ext.drew _)))⟩

set_option maxRecDepth 100000 in
set_option maxHeartbeats 1000000 in
theorem rcheck_in {w : World} {D : Dia} {p : Pl} (d : Dm w D p) (hT : Tabs w) (h0 : ¬ (16 < D.ni ∨ 64 < D.nb ∨ 16 < D.no)) : Calls Tryz.prog 48 #[dgv D p] w fun e w' => e = .returned (I (chk D)) ∧ Ext w w' := by
  have n1 : D.ni ≤ 16 := by omega
  have n2 : D.nb ≤ 64 := by omega
  have n3 : D.no ≤ 16 := by omega
  have H0 := Lib.hid h0
  have m1 : ¬ (16 : Int) < (D.ni : Int) := by omega
  have m2 : ¬ (64 : Int) < (D.nb : Int) := by omega
  have m3 : ¬ (16 : Int) < (D.no : Int) := by omega
  clear h0
  have HBD := Lib.hid (Bd.new w D p 48)
  obtain ⟨W1, hW1⟩ : ∃ W1, W1 = w.alloc (.cells #[.slice p.AI D.ni p.cI, .slice p.AB D.nb p.cB, .slice p.AO D.no p.cO] 48) := ⟨_, rfl⟩
  have hE : Ext w W1 := by rw [hW1]; exact Ext.alloc _ _
  have hz1 : W1.heap.size = w.heap.size + 1 := by rw [hW1]; simp
  rw [← hW1] at HBD
  have HD := Lib.hid d
  have HT := Lib.hid hT
  have HE := Lib.hid hE
  have HW1 := Lib.hid hW1
  have c012 := HBD.out
  rw [hW1] at c012
  obtain ⟨c0, c1, c2⟩ := c012
  clear d hE hW1 hT
  go_enter Tryz.func48, Tryz.ntmps48
  go_wp2_with fail
  clear c0 c1 c2
  go_loopw [29] (fun s wr => ∃ j : Nat, j ≤ D.ni ∧ s = I j ∧ Hid (Ext W1 wr) ∧ Hid (∀ i, i < j → prtE (D.P i) = 0)) (fun s _ => D.ni - (intOf s).toNat)
  case atStart => exact ⟨0, Nat.zero_le _, rfl, by rw [HW1.out]; exact Ext.refl _, fun i hi => absurd hi (by omega)⟩
  case round =>
    obtain ⟨j, hj, rfl, HX, HG⟩ := hrel
    by_cases hlt : j < D.ni
    · obtain ⟨b, o, ha, hba, hc⟩ := (HD.out.ext (HE.out.trans HX.out)).ports (by omega)
      obtain ⟨x0, x1, x2⟩ := hc j hlt
      clear hc
      have hlt' : (j : Int) < (D.ni : Int) := by omega
      obtain ⟨lo, hlo⟩ : ∃ lo, (D.P j).lo = lo := ⟨_, rfl⟩
      obtain ⟨hi, hhi⟩ : ∃ hi, (D.P j).hi = hi := ⟨_, rfl⟩
      obtain ⟨fr, hfr⟩ : ∃ fr, (D.P j).fr = fr := ⟨_, rfl⟩
      rw [hlo] at x0; rw [hhi] at x1; rw [hfr] at x2
      have HPE : Hid (prtE (D.P j) = if -2147483648 ≤ lo ∧ lo ≤ hi ∧ hi < 2147483648 ∧ 0 ≤ fr ∧ fr ≤ 30 then 0 else 3) := by show _ = _; rw [← hlo, ← hhi, ← hfr]; rfl
      have HW := Lib.hid (within_any fr 0 30)
      clear hlo hhi hfr
      by_cases hq : prtE (D.P j) = 0
      · have HG2 : Hid (∀ i, i < j + 1 → prtE (D.P i) = 0) := fun i hi => by
          by_cases h : i = j
          · subst h; exact hq
          · exact HG.out i (by omega)
        have hall : -2147483648 ≤ lo ∧ lo ≤ hi ∧ hi < 2147483648 ∧ 0 ≤ fr ∧ fr ≤ 30 := Classical.byContradiction fun h => by rw [HPE.out, if_neg h] at hq; omega
        obtain ⟨g1, g2, g3, g4, g5⟩ := hall
        rw [decide_eq_true (And.intro g4 g5)] at HW
        have g1' : ¬ lo < -2147483648 := by omega
        have g2' : ¬ hi < lo := by omega
        have g3' : ¬ 2147483648 ≤ hi := by omega
        clear hq HPE
        go_wp2_with (go_at_call 127; (with_reducible refine (HW.out _).mono ?_); rintro e w1 ⟨rfl, hb1⟩)
        (try rw [← ha])
        go_roundw
        case rel => exact ⟨j + 1, by omega, by go_num, HX.out.trans ((Ext.alloc _ _).trans hb1), HG2⟩
        case measure => simp [intOf]; omega
      · have HC := Lib.hid (chk_port H0.out HG.out hlt hq)
        have hall : ¬ (-2147483648 ≤ lo ∧ lo ≤ hi ∧ hi < 2147483648 ∧ 0 ≤ fr ∧ fr ≤ 30) := fun h => by rw [HPE.out, if_pos h] at hq; exact hq rfl
        clear hq HPE
        by_cases g1 : lo < -2147483648
        · clear hall
          go_wp2_with fail
          go_ret
          exact ⟨by rw [HC.out]; rfl, HE.out.trans (HX.out.trans (Ext.alloc _ _))⟩
        by_cases g2 : hi < lo
        · clear hall
          go_wp2_with fail
          go_ret
          exact ⟨by rw [HC.out]; rfl, HE.out.trans (HX.out.trans (Ext.alloc _ _))⟩
        by_cases g3 : 2147483648 ≤ hi
        · clear hall
          go_wp2_with fail
          go_ret
          exact ⟨by rw [HC.out]; rfl, HE.out.trans (HX.out.trans (Ext.alloc _ _))⟩
        have g4 : ¬ (0 ≤ fr ∧ fr ≤ 30) := fun h => hall ⟨by omega, by omega, by omega, h.1, h.2⟩
        rw [decide_eq_false g4] at HW
        clear hall g4
        go_wp2_with (go_at_call 127; (with_reducible refine (HW.out _).mono ?_); rintro e w1 ⟨rfl, hb1⟩)
        go_ret
        exact ⟨by rw [HC.out]; rfl, HE.out.trans (HX.out.trans ((Ext.alloc _ _).trans hb1))⟩
    · obtain rfl : j = D.ni := by omega
      have HXa := HX
      have HPo := HG
      clear HX HG
      obtain ⟨c0, c1, c2⟩ := HBD.out.ext HXa.out
      go_wp2_with fail
      clear c0 c1 c2
      go_loopw [58] (fun s wr => ∃ j : Nat, j ≤ D.nb ∧ s = I j ∧ Hid (Ext W1 wr) ∧ Hid (∀ i, i < j → blkE D (D.B i) = 0)) (fun s _ => D.nb - (intOf s).toNat)
      case atStart => exact ⟨0, Nat.zero_le _, rfl, HXa, fun i hi => absurd hi (by omega)⟩
      case round =>
        obtain ⟨j, hj, rfl, HX, HG⟩ := hrel
        by_cases hlt : j < D.nb
        · have dd := HD.out.ext (HE.out.trans HX.out)
          obtain ⟨b, o, ha, hba, hc⟩ := dd.blocks (by omega)
          obtain ⟨x0, x1, x2, x3, x4, x5⟩ := hc j hlt
          have HB : Hid (∀ w', Ext wr w' → Calls Tryz.prog 128 #[.agg #[.slice p.AI D.ni p.cI, .slice (some ⟨b, o, none⟩) D.nb p.cB, .slice p.AO D.no p.cO], bkv (D.B j).k (p.AA j) (D.B j).n (p.cA j) (D.B j).vn (D.B j).ve (D.B j).un (D.B j).ue] w' fun e w'' => e = .returned (I (blkE D (D.B j))) ∧ Ext w' w'') :=
            fun w' e => by rw [← ha]; exact rblock_any (p := p) (dd.ext e) ((dd.ext e).args j hlt).1 ((dd.ext e).args j hlt).2
          have hsz := HX.out.size
          obtain ⟨c0, c1, c2⟩ := HBD.out.ext HX.out
          have hz2 : w.heap.size < wr.heap.size := by omega
          clear hc dd
          have hlt' : (j : Int) < (D.nb : Int) := by omega
          by_cases hq : blkE D (D.B j) = 0
          · have HG2 : Hid (∀ i, i < j + 1 → blkE D (D.B i) = 0) := fun i hi => by
              by_cases h : i = j
              · subst h; exact hq
              · exact HG.out i (by omega)
            rw [hq] at HB
            clear hq
            go_wp2_with (go_at_call 128; (with_reducible refine (HB.out _ (Ext.alloc _ _)).mono ?_); rintro e w1 ⟨rfl, hb1⟩)
            (try rw [← ha])
            go_roundw
            case rel => exact ⟨j + 1, by omega, by go_num, HX.out.trans ((Ext.alloc _ _).trans hb1), HG2⟩
            case measure => simp [intOf]; omega
          · have HC := Lib.hid (chk_blk H0.out HPo.out HG.out hlt hq)
            have hq' : (blkE D (D.B j) == 0) = false := by simpa using hq
            clear hq
            generalize blkE D (D.B j) = eb at *
            go_wp2_with (go_at_call 128; (with_reducible refine (HB.out _ (Ext.alloc _ _)).mono ?_); rintro e w1 ⟨rfl, hb1⟩)
            go_ret
            exact ⟨by rw [HC.out]; rfl, HE.out.trans (HX.out.trans ((Ext.alloc _ _).trans hb1))⟩
        · obtain rfl : j = D.nb := by omega
          have HXb := HX
          have HBl := HG
          clear HX HG HXa
          obtain ⟨c0, c1, c2⟩ := HBD.out.ext HXb.out
          have HWF := Lib.hid (wf_of H0.out HBl.out)
          have hlo := HD.out.lo
          unfold maxLen at hlo
          obtain ⟨E, hEE⟩ : ∃ E : Nat → Int, (fun i => inE (D.nb : Int) (D.O i)) = E := ⟨_, rfl⟩
          have HW : Hid (∀ i w, Calls Tryz.prog 127 #[I (D.O i), I 0, I ((D.nb : Int) - 1)] w fun e w' => e = .returned (.bool (E i == 0)) ∧ Ext w w') := fun i w => by
            have := within_any (D.O i) 0 ((D.nb : Int) - 1) w
            rw [show decide (0 ≤ D.O i ∧ D.O i ≤ (D.nb : Int) - 1) = (E i == 0) by
              rw [← hEE]
              show _ = (inE (D.nb : Int) (D.O i) == 0)
              unfold inE
              by_cases q : 0 ≤ D.O i ∧ D.O i < D.nb
              · rw [if_pos q, decide_eq_true (by omega)]; rfl
              · rw [if_neg q, decide_eq_false (by omega)]; rfl] at this
            exact this
          have HCO : Hid (fstE D.no E ≠ 0 → chk D = 10) := fun h => chk_out H0.out HPo.out HBl.out (by rw [hEE]; exact h)
          have HCY : Hid (fstE D.no E = 0 → chk D = if (ordL D).length + (delL D).length < D.nb then 24 else 0) := fun h => chk_cyc H0.out HPo.out HBl.out (by rw [hEE]; exact h)
          clear hEE
          go_wp2_with fail
          clear c0 c1 c2
          go_loopw [72] (fun s wr => ∃ j : Nat, j ≤ D.no ∧ s = I j ∧ Hid (Ext W1 wr) ∧ Hid (∀ i, i < j → E i = 0)) (fun s _ => D.no - (intOf s).toNat)
          case atStart => exact ⟨0, Nat.zero_le _, rfl, HXb, fun i hi => absurd hi (by omega)⟩
          case round =>
            obtain ⟨j, hj, rfl, HX, HG⟩ := hrel
            obtain ⟨c0, c1, c2⟩ := HBD.out.ext HX.out
            by_cases hlt : j < D.no
            · obtain ⟨b, o, ha, hba, hc⟩ := (HD.out.ext (HE.out.trans HX.out)).outs (by omega)
              have xo := hc j hlt
              clear hc
              have HWJ := Lib.hid (HW.out j)
              have hlt' : (j : Int) < (D.no : Int) := by omega
              by_cases hq : E j = 0
              · have HG2 : Hid (∀ i, i < j + 1 → E i = 0) := fun i hi => by
                  by_cases h : i = j
                  · subst h; exact hq
                  · exact HG.out i (by omega)
                rw [show (E j == 0) = true by simpa using hq] at HWJ
                clear hq
                go_wp2_with (go_at_call 127; (with_reducible refine (HWJ.out _).mono ?_); rintro e2 w2 ⟨rfl, x2⟩)
                (try rw [← ha])
                go_roundw
                case rel => exact ⟨j + 1, by omega, by go_num, HX.out.trans x2, HG2⟩
                case measure => simp [intOf]; omega
              · have HC := Lib.hid (HCO.out (by rw [fstE_hit HG.out hlt hq]; exact hq))
                rw [show (E j == 0) = false by simpa using hq] at HWJ
                clear hq
                go_wp2_with (go_at_call 127; (with_reducible refine (HWJ.out _).mono ?_); rintro e2 w2 ⟨rfl, x2⟩)
                go_ret
                exact ⟨by rw [HC.out]; rfl, HE.out.trans (HX.out.trans x2)⟩
            · obtain rfl : j = D.no := by omega
              have HC := Lib.hid (HCY.out (fstE_none HG.out))
              have ho := ord_le D
              have hd := del_le D
              have hod := ord_del_le D
              have HO : Hid (∀ w', Ext W1 w' → Calls Tryz.prog 129 #[dgv D p] w' (LsR (ordL D) w')) := fun w' e => rorder_any (HD.out.ext (HE.out.trans e)) HWF.out
              have HL : Hid (∀ w', Ext W1 w' → Calls Tryz.prog 130 #[dgv D p] w' (LsR (delL D) w')) := fun w' e => rdelays_any (HD.out.ext (HE.out.trans e)) (by omega)
              generalize ordL D = L1 at *
              generalize delL D = L2 at *
              go_upto_region 22 with fail
              have HX1 := HX
              have HS : Hid (∀ w', Ext wr w' → w'.cell? ⟨w.heap.size, 0, none⟩ = some (.slice p.AI D.ni p.cI) ∧ w'.cell? ⟨w.heap.size, 1, none⟩ = some (.slice p.AB D.nb p.cB) ∧ w'.cell? ⟨w.heap.size, 2, none⟩ = some (.slice p.AO D.no p.cO)) := fun w' e => by
                obtain ⟨c0, c1, c2⟩ := HBD.out.ext (HX1.out.trans e)
                exact ⟨c0, c1, c2⟩
              have hwr : IntKind.i64.wrap ((L1.length : Int) + (L2.length : Int)) = (L1.length : Int) + (L2.length : Int) := IntWalk.i64_in _ (by omega)
              by_cases hcy : L1.length + L2.length < D.nb
              all_goals
                (first | rw [if_pos hcy] at HC | rw [if_neg hcy] at HC)
                (first | (have hcz : ((L1.length : Int) + (L2.length : Int) == (D.nb : Int)) = false := by simp; omega) | (have hcz : ((L1.length : Int) + (L2.length : Int) == (D.nb : Int)) = true := by simp; omega))
                go_region_held3 (fun w' => w'.cell? ⟨w.heap.size, 0, none⟩ = some (.slice p.AI D.ni p.cI) ∧ w'.cell? ⟨w.heap.size, 1, none⟩ = some (.slice p.AB D.nb p.cB) ∧ w'.cell? ⟨w.heap.size, 2, none⟩ = some (.slice p.AO D.no p.cO)) (first | with_reducible assumption | exact HS.out _ (by (with_reducible (repeat (first | exact Ext.refl _ | assumption | (refine Ext.toSet ?_ (by omega)) | refine Ext.toAlloc ?_ | refine Ext.toDrew ?_ | refine Ext.toDrewN ?_ | refine Ext.trans ?_ (by assumption)))); (first | done | fail "no")))
                  (first
                    | (go_at_call 129; (with_reducible refine (HO.out _ (HX1.out.trans (by (with_reducible (repeat (first | exact Ext.refl _ | assumption | (refine Ext.toSet ?_ (by omega)) | refine Ext.toAlloc ?_ | refine Ext.toDrew ?_ | refine Ext.toDrewN ?_ | refine Ext.trans ?_ (by assumption)))); (first | done | fail "no")))).mono ?_); rintro e5 w5 ⟨A5, k5, rfl, _, hx5⟩; obtain ⟨q0, q1, q2⟩ := HS.out w5 (by (with_reducible (repeat (first | exact Ext.refl _ | assumption | (refine Ext.toSet ?_ (by omega)) | refine Ext.toAlloc ?_ | refine Ext.toDrew ?_ | refine Ext.toDrewN ?_ | refine Ext.trans ?_ (by assumption)))); (first | done | fail "no")))
                    | (go_at_call 130; (with_reducible refine (HL.out _ (HX1.out.trans (by (with_reducible (repeat (first | exact Ext.refl _ | assumption | (refine Ext.toSet ?_ (by omega)) | refine Ext.toAlloc ?_ | refine Ext.toDrew ?_ | refine Ext.toDrewN ?_ | refine Ext.trans ?_ (by assumption)))); (first | done | fail "no")))).mono ?_); rintro e6 w6 ⟨A6, k6, rfl, _, hx6⟩; obtain ⟨p0, p1, p2⟩ := HS.out w6 (by (with_reducible (repeat (first | exact Ext.refl _ | assumption | (refine Ext.toSet ?_ (by omega)) | refine Ext.toAlloc ?_ | refine Ext.toDrew ?_ | refine Ext.toDrewN ?_ | refine Ext.trans ?_ (by assumption)))); (first | done | fail "no"))))
                all_goals
                  go_wp2_with fail
                  go_ret
                  exact ⟨by rw [HC.out]; rfl, HE.out.trans (HX1.out.trans (by (with_reducible (repeat (first | exact Ext.refl _ | assumption | (refine Ext.toSet ?_ (by omega)) | refine Ext.toAlloc ?_ | refine Ext.toDrew ?_ | refine Ext.toDrewN ?_ | refine Ext.trans ?_ (by assumption)))); (first | done | fail "no")))⟩
theorem rcheck_any {w : World} {D : Dia} {p : Pl} (d : Dm w D p) (hT : Tabs w) : Calls Tryz.prog 48 #[dgv D p] w fun e w' => e = .returned (I (chk D)) ∧ Ext w w' := by
  by_cases h : 16 < D.ni ∨ 64 < D.nb ∨ 16 < D.no
  · rw [chk_large h]; exact rcheck_large h d.li d.lb d.lo
  · exact rcheck_in d hT h
end

end Go.Proofs.YtcdkkohklhmpgaaGreatDoor
