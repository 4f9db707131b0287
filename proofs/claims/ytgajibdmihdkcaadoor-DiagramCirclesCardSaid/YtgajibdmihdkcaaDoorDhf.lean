/- Diagrams: Affine by the code. -/
import Derived.Test.YtgajibdmihdkcaaDoorDhe
namespace Go.Proofs.YtgajibdmihdkcaaDoor
open Go Go.RowKit

/-- Blocks that vary by themselves: inputs and delays. -/
def vbase (D : Dia) (j : Nat) : Bool := (D.B j).k == 0 || isD D j
noncomputable def ovrL (D : Dia) (i : Nat) : List Nat := mkL D.nb (ovrR D [i])
noncomputable def vryC (D : Dia) (i : Nat) : Bool := anyN (ovrL D i).length (fun m => vbase D ((ovrL D i).getD m 0))
theorem ovrL_len (D : Dia) (i : Nat) : (ovrL D i).length ≤ D.nb := by unfold ovrL; rw [mkL_len]; exact cnt_le _ _
theorem ovrL_lt {D : Dia} {i m : Nat} (h : m < (ovrL D i).length) : (ovrL D i).getD m 0 < D.nb := by
  have := List.getElem_mem h
  rw [List.getD_eq_getElem?_getD, List.getElem?_eq_getElem h]
  exact (mem_mkL.1 this).1

set_option maxRecDepth 100000 in
set_option maxHeartbeats 1000000 in
theorem vbase_any {w : World} {D : Dia} {p : Pl} {bd : Nat} (d : Dm w D p) (hd : Bd w bd D p) (i : Nat) (hi : i < D.nb) :
    Calls Tryd.prog 79 (#[I i] ++ #[.pointer (some ⟨bd, 0, none⟩)]) w fun e w' => e = .returned (.bool (vbase D i)) ∧ Ext w w' := by
  have HI := Lib.hid (isDelay_any d i hi)
  obtain ⟨c0, c1, c2⟩ := hd
  obtain ⟨b, o, ha, hba, hc⟩ := d.blocks (by omega)
  obtain ⟨x0, x1, x2, x3, x4, x5⟩ := hc i hi
  have lb := d.lb; unfold maxLen at lb
  have hlt : (i : Int) < (D.nb : Int) := by omega
  unfold vbase
  clear hc d
  generalize isD D i = q at *
  cases hk : ((D.B i).k == 0) with
  | true =>
    generalize (D.B i).k = k at *
    go_enter Tryd.func79, Tryd.ntmps79
    go_wp2_with fail
    go_ret
    exact ⟨rfl, Ext.refl _⟩
  | false =>
    generalize (D.B i).k = k at *
    go_enter Tryd.func79, Tryd.ntmps79
    go_wp2_with (go_at_call 61; rw [← ha]; refine HI.out.mono ?_; rintro e w1 ⟨rfl, hb1⟩)
    go_ret
    exact ⟨rfl, hb1⟩
set_option maxRecDepth 100000 in
set_option maxHeartbeats 1000000 in
theorem varies_any {w : World} {D : Dia} {p : Pl} (d : Dm w D p) (wf : WF D) (i : Nat) (hi : i < D.nb) : Calls Tryd.prog 66 #[dgv D p, I i] w fun e w' => e = .returned (.bool (vryC D i)) ∧ Ext w w' := by
  have hnb := wf.nb
  have eg : ∀ args w, (callFunc 79 args).run Tryd.prog w = .ok (.enter 79 args) w := enters_of Tryd.func79 (by kernel_rfl) rfl
  obtain ⟨W2, hW2⟩ : ∃ W2, W2 = (w.alloc (.cells #[.slice p.AI D.ni p.cI, .slice p.AB D.nb p.cB, .slice p.AO D.no p.cO] 26)).alloc (.cells #[I i] 3) := ⟨_, rfl⟩
  have hE : Ext w W2 := by rw [hW2]; exact (Ext.alloc _ _).trans (Ext.alloc _ _)
  have hbd : Bd W2 w.heap.size D p := by rw [hW2]; exact (Bd.new _ _ _ _).ext (Ext.alloc _ _)
  have hr : Rl W2 (some ⟨w.heap.size + 1, 0, none⟩) 1 [i] := ⟨fun _ => ⟨w.heap.size + 1, 0, rfl, by rw [hW2]; simp, fun j hj => by
    obtain rfl : j = 0 := by simpa using hj
    rw [hW2]; simp⟩, fun h => by cases h⟩
  have HR := Lib.hid (overTicks_any (S := [i]) (d.ext hE) wf hr (by simp) (fun x hx => by rw [List.mem_singleton] at hx; omega))
  have HC : Hid (∀ w3 A c, Ext W2 w3 → OwL w3 W2.heap.size A c (ovrL D i) → Calls Tryd.prog 77 #[.slice A (ovrL D i).length c, .func (.func 79) #[] #[.pointer (some ⟨w.heap.size, 0, none⟩)]] w3 (fun e w' => e = .returned (.bool (vryC D i)) ∧ Ext w3 w')) := fun w3 A c e o =>
    containsFunc_any _ _ _ _ _ _ (fun m => vbase D ((ovrL D i).getD m 0)) w3 o.ri (by have := ovrL_len D i; unfold maxLen; omega) eg (fun m w' hm e' => vbase_any (d.ext ((hE.trans e).trans e')) (hbd.ext (e.trans e')) _ (ovrL_lt hm))
  have HE := Lib.hid hE
  have HBD := Lib.hid hbd
  clear hE hbd hr eg d wf
  have hL : mkL D.nb (ovrR D [i]) = ovrL D i := rfl
  rw [hL] at HR
  clear hL
  have hlen := ovrL_len D i
  generalize ovrL D i = L at *
  generalize vryC D i = v at *
  go_enter Tryd.func66, Tryd.ntmps66
  go_wp2_with (first
    | (go_at_call 43; rw [← hW2]; refine HR.out.mono ?_; rintro e w1 ⟨A, c, rfl, o1, x1⟩; have O1 := Lib.hid o1; have X1 := Lib.hid x1; clear o1; obtain ⟨c0, c1, c2⟩ := HBD.out.ext x1; clear x1)
    | (go_at_call 77; (with_reducible refine (HC.out _ _ _ X1.out O1.out).mono ?_); rintro e w2 ⟨rfl, x2⟩))
  go_ret
  exact ⟨rfl, HE.out.trans (X1.out.trans x2)⟩

/-- A block that no affine diagram has. -/
noncomputable def bnd (D : Dia) (i : Nat) : Bool := (D.B i).k == 8 || (D.B i).k == 9 || (D.B i).k == 10 || (D.B i).k == 11 || ((D.B i).k == 7 && vryC D (sr D i 0) && vryC D (sr D i 1))
set_option maxRecDepth 100000 in
set_option maxHeartbeats 1000000 in
theorem bends_mul {w : World} {D : Dia} {p : Pl} {b o c s0 s1 : Nat} {v0 v1 : Bool} (vn ve un ue : Int) (hb : b < w.heap.size) (y0 : w.cell? ⟨b, o, none⟩ = some (I s0)) (y1 : w.cell? ⟨b, o + 1, none⟩ = some (I s1))
    (h0 : ∀ w', Ext w w' → Calls Tryd.prog 66 #[dgv D p, I s0] w' fun e w'' => e = .returned (.bool v0) ∧ Ext w' w'') (h1 : ∀ w', Ext w w' → Calls Tryd.prog 66 #[dgv D p, I s1] w' fun e w'' => e = .returned (.bool v1) ∧ Ext w' w'') :
    Calls Tryd.prog 42 #[dgv D p, bkv 7 (some ⟨b, o, none⟩) 2 c vn ve un ue] w fun e w' => e = .returned (.bool (v0 && v1)) ∧ Ext w w' := by
  have HV0 := Lib.hid h0
  have HV1 := Lib.hid h1
  obtain ⟨W2, hW2⟩ : ∃ W2, W2 = (w.alloc (.cells #[.slice p.AI D.ni p.cI, .slice p.AB D.nb p.cB, .slice p.AO D.no p.cO] 26)).alloc (.cells #[I 7, .slice (some ⟨b, o, none⟩) 2 c, I vn, I ve, I un, I ue] 53) := ⟨_, rfl⟩
  have HB := bxB w D p ⟨7, 2, fun _ => 0, vn, ve, un, ue⟩ (some ⟨b, o, none⟩) c 26 53
  simp only [] at HB
  rw [← hW2] at HB
  have HW : Ext w W2 := HB.ext
  have HS : Hid (∀ w', Ext W2 w' → w'.cell? ⟨w.heap.size, 0, none⟩ = some (.slice p.AI D.ni p.cI) ∧ w'.cell? ⟨w.heap.size, 1, none⟩ = some (.slice p.AB D.nb p.cB) ∧ w'.cell? ⟨w.heap.size, 2, none⟩ = some (.slice p.AO D.no p.cO) ∧ w'.cell? ⟨w.heap.size + 1, 1, none⟩ = some (.slice (some ⟨b, o, none⟩) 2 c) ∧ w'.cell? ⟨b, o, none⟩ = some (I s0) ∧ w'.cell? ⟨b, o + 1, none⟩ = some (I s1)) := fun w' e => by
    obtain ⟨a0, a1, a2⟩ := HB.d0 w' e
    obtain ⟨_, m1, _⟩ := HB.b0 w' e
    exact ⟨a0, a1, a2, m1, ((HW.trans e).old.1 _ _ hb).trans y0, ((HW.trans e).old.1 _ _ hb).trans y1⟩
  clear HB h0 h1
  cases v0 with
  | true =>
    go_enter Tryd.func42, Tryd.ntmps42
    go_upto_region 8 with fail
    (try rw [← hW2])
    clear hW2 y0 y1
    obtain ⟨k0, k1, k2, k3, k4, k5⟩ := HS.out _ (Ext.refl _)
    go_region_held3 (fun w' => w'.cell? ⟨w.heap.size, 0, none⟩ = some (.slice p.AI D.ni p.cI) ∧ w'.cell? ⟨w.heap.size, 1, none⟩ = some (.slice p.AB D.nb p.cB) ∧ w'.cell? ⟨w.heap.size, 2, none⟩ = some (.slice p.AO D.no p.cO) ∧ w'.cell? ⟨w.heap.size + 1, 1, none⟩ = some (.slice (some ⟨b, o, none⟩) 2 c) ∧ w'.cell? ⟨b, o, none⟩ = some (I s0) ∧ w'.cell? ⟨b, o + 1, none⟩ = some (I s1)) (first | with_reducible assumption | exact HS.out _ (by (with_reducible (repeat (first | exact Ext.refl _ | assumption | (refine Ext.toSet ?_ (by omega)) | refine Ext.toAlloc ?_ | refine Ext.toDrew ?_ | refine Ext.toDrewN ?_ | refine Ext.trans ?_ (by assumption)))); (first | done | fail "no")))
      (first
        | (go_at_call 66; (with_reducible refine (HV0.out _ (HW.trans (by (with_reducible (repeat (first | exact Ext.refl _ | assumption | (refine Ext.toSet ?_ (by omega)) | refine Ext.toAlloc ?_ | refine Ext.toDrew ?_ | refine Ext.toDrewN ?_ | refine Ext.trans ?_ (by assumption)))); (first | done | fail "no")))).mono ?_); rintro ea wa ⟨rfl, hxa⟩; obtain ⟨a0, a1, a2, a3, a4, a5⟩ := HS.out wa (by (with_reducible (repeat (first | exact Ext.refl _ | assumption | (refine Ext.toSet ?_ (by omega)) | refine Ext.toAlloc ?_ | refine Ext.toDrew ?_ | refine Ext.toDrewN ?_ | refine Ext.trans ?_ (by assumption)))); (first | done | fail "no")))
        | (go_at_call 66; (with_reducible refine (HV1.out _ (HW.trans (by (with_reducible (repeat (first | exact Ext.refl _ | assumption | (refine Ext.toSet ?_ (by omega)) | refine Ext.toAlloc ?_ | refine Ext.toDrew ?_ | refine Ext.toDrewN ?_ | refine Ext.trans ?_ (by assumption)))); (first | done | fail "no")))).mono ?_); rintro eb wb ⟨rfl, hxb⟩; obtain ⟨b0, b1, b2, b3, b4, b5⟩ := HS.out wb (by (with_reducible (repeat (first | exact Ext.refl _ | assumption | (refine Ext.toSet ?_ (by omega)) | refine Ext.toAlloc ?_ | refine Ext.toDrew ?_ | refine Ext.toDrewN ?_ | refine Ext.trans ?_ (by assumption)))); (first | done | fail "no"))))
    go_wp2_with fail
    go_ret
    exact ⟨rfl, HW.trans (by (with_reducible (repeat (first | exact Ext.refl _ | assumption | (refine Ext.toSet ?_ (by omega)) | refine Ext.toAlloc ?_ | refine Ext.toDrew ?_ | refine Ext.toDrewN ?_ | refine Ext.trans ?_ (by assumption)))); (first | done | fail "no"))⟩
  | false =>
    go_enter Tryd.func42, Tryd.ntmps42
    go_upto_region 8 with fail
    (try rw [← hW2])
    clear hW2 y0 y1
    have hK := fun (x : Later W2) => HS.out x.to x.ext
    refine wp_region_later (by kernel_rfl) (by kernel_rfl) ?_
    repeat (go_big_quiet_step ((go_at_call 66; exact Calls.later (HV0.out _ (HW.trans (Later.ext _))))))
    refine wpQuiet_nil ?_
    intro w4 hw4
    have hx4 := Later.of hw4
    clear hw4 hK
    go_wp2_with fail
    go_ret
    exact ⟨rfl, HW.trans (by (with_reducible (repeat (first | exact Ext.refl _ | assumption | (refine Ext.toSet ?_ (by omega)) | refine Ext.toAlloc ?_ | refine Ext.toDrew ?_ | refine Ext.toDrewN ?_ | refine Ext.trans ?_ (by assumption)))); (first | done | fail "no"))⟩
set_option maxRecDepth 100000 in
set_option maxHeartbeats 1000000 in
theorem bends_any {w : World} {D : Dia} {p : Pl} (d : Dm w D p) (wf : WF D) (i : Nat) (hi : i < D.nb) :
    Calls Tryd.prog 42 #[dgv D p, bkv (D.B i).k (p.AA i) (D.B i).n (p.cA i) (D.B i).vn (D.B i).ve (D.B i).un (D.B i).ue] w fun e w' => e = .returned (.bool (bnd D i)) ∧ Ext w w' := by
  unfold bnd
  by_cases h7 : (D.B i).k = 7
  · have HV : ∀ j w', j < ns D i → Ext w w' → Calls Tryd.prog 66 #[dgv D p, I (sr D i j)] w' fun e w'' => e = .returned (.bool (vryC D (sr D i j))) ∧ Ext w' w'' := fun j w' hj e => varies_any (d.ext e) wf _ (wf.src hi hj).2.1
    have har := wf.ar i hi
    have hra := (d.args i hi).1
    have hsr := Lib.hid (fun j (hj : j < ns D i) => wf.src hi hj)
    unfold ns at HV hsr
    rw [h7] at har HV hsr ⊢
    rw [if_neg (by omega)] at HV hsr
    have hn : (D.B i).n = 2 := by unfold arity at har; simp at har; omega
    rw [hn] at hra HV hsr ⊢
    obtain ⟨b, o, ha, hb, hc⟩ := hra (by omega)
    have y0 := hc 0 (by omega)
    have y1 := hc 1 (by omega)
    rw [(hsr.out 0 (by omega)).1] at y0
    rw [(hsr.out 1 (by omega)).1] at y1
    rw [ha]
    exact bends_mul _ _ _ _ hb y0 y1 (fun w' e => HV 0 w' (by omega) e) (fun w' e => HV 1 w' (by omega) e)
  · have g7 : ((D.B i).k == 7) = false := by simpa using h7
    clear wf d h7
    generalize (D.B i).k = k at *
    generalize (D.B i).n = n at *
    generalize p.AA i = A at *
    generalize vryC D _ = v0
    generalize vryC D _ = v1
    cases g8 : (k == 8)
    · cases g9 : (k == 9)
      · cases g10 : (k == 10)
        · cases g11 : (k == 11)
          all_goals
            go_enter Tryd.func42, Tryd.ntmps42
            go_wp2
            go_ret
            exact ⟨by simp [*], (by repeat (first | exact Ext.refl _ | assumption | exact Ext.alloc _ _ | refine Ext.trans ?_ (by assumption) | refine Ext.trans ?_ (Ext.alloc _ _) | refine Ext.trans ?_ (Ext.drewN _ _) | refine Ext.trans ?_ (Ext.drew _)))⟩
        · go_enter Tryd.func42, Tryd.ntmps42
          go_wp2
          go_ret
          exact ⟨by simp [*], (by repeat (first | exact Ext.refl _ | assumption | exact Ext.alloc _ _ | refine Ext.trans ?_ (by assumption) | refine Ext.trans ?_ (Ext.alloc _ _) | refine Ext.trans ?_ (Ext.drewN _ _) | refine Ext.trans ?_ (Ext.drew _)))⟩
      · go_enter Tryd.func42, Tryd.ntmps42
        go_wp2
        go_ret
        exact ⟨by simp [*], (by repeat (first | exact Ext.refl _ | assumption | exact Ext.alloc _ _ | refine Ext.trans ?_ (by assumption) | refine Ext.trans ?_ (Ext.alloc _ _) | refine Ext.trans ?_ (Ext.drewN _ _) | refine Ext.trans ?_ (Ext.drew _)))⟩
    · go_enter Tryd.func42, Tryd.ntmps42
      go_wp2
      go_ret
      exact ⟨by simp [*], (by repeat (first | exact Ext.refl _ | assumption | exact Ext.alloc _ _ | refine Ext.trans ?_ (by assumption) | refine Ext.trans ?_ (Ext.alloc _ _) | refine Ext.trans ?_ (Ext.drewN _ _) | refine Ext.trans ?_ (Ext.drew _)))⟩
set_option maxRecDepth 100000 in
set_option maxHeartbeats 1000000 in
theorem bendsf_any {w : World} {D : Dia} {p : Pl} {bd : Nat} (d : Dm w D p) (hd : Bd w bd D p) (wf : WF D) (i : Nat) (hi : i < D.nb) :
    Calls Tryd.prog 41 (#[bkv (D.B i).k (p.AA i) (D.B i).n (p.cA i) (D.B i).vn (D.B i).ve (D.B i).un (D.B i).ue] ++ #[.pointer (some ⟨bd, 0, none⟩)]) w fun e w' => e = .returned (.bool (bnd D i)) ∧ Ext w w' := by
  have HI := Lib.hid (bends_any (d.ext (Ext.alloc w (.cells #[I (D.B i).k, .slice (p.AA i) (D.B i).n (p.cA i), I (D.B i).vn, I (D.B i).ve, I (D.B i).un, I (D.B i).ue] 53))) wf i hi)
  have hbd := hd.lt
  obtain ⟨c0, c1, c2⟩ := hd
  clear d wf hi
  generalize bnd D i = v at *
  generalize (D.B i).k = kk at *
  generalize (D.B i).n = n at *
  generalize (D.B i).vn = vn at *
  generalize (D.B i).ve = ve at *
  generalize (D.B i).un = un at *
  generalize (D.B i).ue = ue at *
  generalize p.AA i = A at *
  generalize p.cA i = c at *
  go_enter Tryd.func41, Tryd.ntmps41
  go_wp2_with (go_at_call 42; refine HI.out.mono ?_; rintro e w1 ⟨rfl, hb1⟩)
  go_ret
  exact ⟨rfl, (Ext.alloc _ _).trans hb1⟩
set_option maxRecDepth 100000 in
set_option maxHeartbeats 1000000 in
theorem indexFuncB_any (g : FuncId) (cb : Array Value) {D : Dia} {p : Pl} (q : Nat → Bool) {w : World} (d : Dm w D p) (eg : ∀ args w, (callFunc g args).run Tryd.prog w = .ok (.enter g args) w)
    (hf0 : ∀ (i : Nat) (w' : World), i < D.nb → Ext w w' → Calls Tryd.prog g (#[bkv (D.B i).k (p.AA i) (D.B i).n (p.cA i) (D.B i).vn (D.B i).ve (D.B i).un (D.B i).ue] ++ cb) w' fun e w'' => e = .returned (.bool (q i)) ∧ Ext w' w'') :
    Calls Tryd.prog 65 #[.slice p.AB D.nb p.cB, .func (.func g) #[] cb] w fun e w' => e = .returned (I (fstI D.nb q)) ∧ Ext w w' := by
  have hn := d.lb
  unfold maxLen at hn
  have HF := Lib.hid hf0; clear hf0
  have R := Lib.hid d; clear d
  go_enter Tryd.func65, Tryd.ntmps65
  go_wp2
  go_loopw [8] (fun s wr => ∃ j : Nat, j ≤ D.nb ∧ s = I j ∧ Ext w wr ∧ Hid (∀ i, i < j → q i = false)) (fun s _ => D.nb - (intOf s).toNat)
  case atStart => exact ⟨0, Nat.zero_le _, rfl, Ext.refl _, fun i hi => absurd hi (by omega)⟩
  case round =>
    obtain ⟨j, hj, rfl, hb, HG⟩ := hrel
    by_cases hlt : j < D.nb
    · obtain ⟨b, o, ha, hba, hc⟩ := (R.out.ext hb).blocks (by omega)
      obtain ⟨x0, x1, x2, x3, x4, x5⟩ := hc j hlt
      clear hc
      have hlt' : (j : Int) < (D.nb : Int) := by omega
      have HC := Lib.hid (HF.out j _ hlt hb)
      generalize (D.B j).k = kk at *
      generalize (D.B j).n = n at *
      generalize (D.B j).vn = vn at *
      generalize (D.B j).ve = ve at *
      generalize (D.B j).un = un at *
      generalize (D.B j).ue = ue at *
      generalize p.AA j = A at *
      generalize p.cA j = c at *
      cases hq : q j with
      | true =>
        rw [hq] at HC
        have HR := Lib.hid (fstI_hit HG.out hlt hq)
        clear hq
        go_wp2_with (go_at_fn g; refine HC.out.mono ?_; rintro e w1 ⟨rfl, hb1⟩; replace hb := Ext.trans hb hb1; clear hb1)
        go_ret
        exact ⟨by rw [HR.out]; rfl, hb⟩
      | false =>
        rw [hq] at HC
        have HG2 : Hid (∀ i, i < j + 1 → q i = false) := fun i hi => by
          by_cases h : i = j
          · subst h; exact hq
          · exact HG.out i (by omega)
        clear hq
        go_wp2_with (go_at_fn g; refine HC.out.mono ?_; rintro e w1 ⟨rfl, hb1⟩; replace hb := Ext.trans hb hb1; clear hb1)
        (try rw [← ha])
        go_roundw
        case rel => exact ⟨j + 1, by omega, by go_num, hb, HG2⟩
        case measure => simp [intOf]; omega
    · obtain rfl : j = D.nb := by omega
      have HR := Lib.hid (fstI_none HG.out)
      go_wp2
      go_ret
      exact ⟨by rw [HR.out]; rfl, hb⟩
set_option maxRecDepth 100000 in
set_option maxHeartbeats 1000000 in
theorem containsFuncB_any (g : FuncId) (cb : Array Value) {D : Dia} {p : Pl} (q : Nat → Bool) {w : World} (d : Dm w D p) (eg : ∀ args w, (callFunc g args).run Tryd.prog w = .ok (.enter g args) w)
    (hf0 : ∀ (i : Nat) (w' : World), i < D.nb → Ext w w' → Calls Tryd.prog g (#[bkv (D.B i).k (p.AA i) (D.B i).n (p.cA i) (D.B i).vn (D.B i).ve (D.B i).un (D.B i).ue] ++ cb) w' fun e w'' => e = .returned (.bool (q i)) ∧ Ext w' w'') :
    Calls Tryd.prog 40 #[.slice p.AB D.nb p.cB, .func (.func g) #[] cb] w fun e w' => e = .returned (.bool (anyN D.nb q)) ∧ Ext w w' := by
  have HC := Lib.hid (indexFuncB_any g cb q d eg hf0)
  clear hf0 eg d
  unfold anyN
  generalize fstI D.nb q = z at *
  by_cases h : 0 ≤ z
  all_goals
    go_enter Tryd.func40, Tryd.ntmps40
    go_wp2_with (go_at_call 65; refine HC.out.mono ?_; rintro e w1 ⟨rfl, hb1⟩)
    go_ret
    exact ⟨by simp [h], hb1⟩
noncomputable def affC (D : Dia) : Bool := !anyN D.nb (bnd D)
set_option maxRecDepth 100000 in
set_option maxHeartbeats 1000000 in
theorem Affine_ok {w : World} {D : Dia} {p : Pl} (d : Dm w D p) (hT : Tabs w) (h : chk D = 0) : Calls Tryd.prog 19 #[dgv D p] w fun e w' => e = .returned (.tuple #[.bool (affC D), .nilIface]) ∧ Ext w w' := by
  have eg : ∀ args w, (callFunc 41 args).run Tryd.prog w = .ok (.enter 41 args) w := enters_of Tryd.func41 (by kernel_rfl) rfl
  have HC : Hid (∀ w', Ext w w' → Calls Tryd.prog 15 #[dgv D p] w' fun e w'' => e = .returned .nilIface ∧ Ext w' w'') := fun w' e => by
    have := check_any (d.ext e) (hT.ext e); rw [h, errv_z] at this; exact this
  have hbd : Bd (w.alloc (.cells #[.slice p.AI D.ni p.cI, .slice p.AB D.nb p.cB, .slice p.AO D.no p.cO] 26)) w.heap.size D p := Bd.new w D p 26
  have HB := Lib.hid hbd
  have HF : Hid (∀ w', Ext (w.alloc (.cells #[.slice p.AI D.ni p.cI, .slice p.AB D.nb p.cB, .slice p.AO D.no p.cO] 26)) w' → Calls Tryd.prog 40 #[.slice p.AB D.nb p.cB, .func (.func 41) #[] #[.pointer (some ⟨w.heap.size, 0, none⟩)]] w' fun e w'' => e = .returned (.bool (anyN D.nb (bnd D))) ∧ Ext w' w'') := fun w' e =>
    containsFuncB_any _ _ _ (d.ext ((Ext.alloc _ _).trans e)) eg fun i w'' hi e' => bendsf_any (d.ext (((Ext.alloc _ _).trans e).trans e')) (hbd.ext (e.trans e')) (chk_ok h).toWF i hi
  clear d hT h eg hbd
  unfold affC
  generalize anyN D.nb (bnd D) = v at *
  go_enter Tryd.func19, Tryd.ntmps19
  go_wp2_with (first
    | (go_at_call 15; (with_reducible refine (HC.out _ (Ext.alloc _ _)).mono ?_); rintro e w1 ⟨rfl, hb1⟩; obtain ⟨c0, c1, c2⟩ := HB.out.ext hb1; have hz := hb1.size; simp at hz)
    | (go_at_call 40; (with_reducible refine (HF.out _ hb1).mono ?_); rintro e w2 ⟨rfl, x2⟩))
  go_ret2
  exact ⟨rfl, ((Ext.alloc _ _).trans hb1).trans x2⟩
end Go.Proofs.YtgajibdmihdkcaaDoor
