/- Diagrams: leastReady, by the code. -/
import Derived.Test.YtgajibdmihdkcaaDoorDgf
namespace Go.Proofs.YtgajibdmihdkcaaDoor
open Go.RowKit

/-- The two boxes of leastReady. -/
theorem two_bl (w : World) (D : Dia) (p : Pl) (g c : Nat) (t t' : TypeId) :
    Bd ((w.alloc (.cells #[.slice p.AI D.ni p.cI, .slice p.AB D.nb p.cB, .slice p.AO D.no p.cO] t)).alloc (.cells #[.slice (some ⟨g, 0, none⟩) D.nb c] t')) w.heap.size D p ∧
    ((w.alloc (.cells #[.slice p.AI D.ni p.cI, .slice p.AB D.nb p.cB, .slice p.AO D.no p.cO] t)).alloc (.cells #[.slice (some ⟨g, 0, none⟩) D.nb c] t')).cell? ⟨w.heap.size + 1, 0, none⟩ = some (.slice (some ⟨g, 0, none⟩) D.nb c) ∧
    w.heap.size + 1 < ((w.alloc (.cells #[.slice p.AI D.ni p.cI, .slice p.AB D.nb p.cB, .slice p.AO D.no p.cO] t)).alloc (.cells #[.slice (some ⟨g, 0, none⟩) D.nb c] t')).heap.size :=
  ⟨(Bd.new w D p t).ext (Ext.alloc _ _), by go_simp, by simp⟩
theorem rdy_eq (D : Dia) (P : Nat → Bool) (i : Nat) : rdy D P i = ((!P i && !isD D i) && !anyN (ns D i) (fun j => !P (sr D i j) && !isD D (sr D i j))) := by
  unfold rdy
  rw [anyN_all]
  congr 3
  funext j
  cases P (sr D i j) <;> cases isD D (sr D i j) <;> rfl
set_option maxRecDepth 100000 in
set_option maxHeartbeats 1000000 in
theorem leastReady_any {w : World} {D : Dia} {p : Pl} {g c : Nat} {P : Nat → Bool} (d : Dm w D p) (wf : WF D) (hp : Rb w g D.nb P) :
    Calls Tryd.prog 60 #[dgv D p, .slice (some ⟨g, 0, none⟩) D.nb c] w fun e w' => e = .returned (I (fstI D.nb (rdy D P))) ∧ Ext w w' := by
  have hnb := wf.nb
  have eg : ∀ args w, (callFunc 76 args).run Tryd.prog w = .ok (.enter 76 args) w := enters_of Tryd.func76 (by kernel_rfl) rfl
  obtain ⟨b1, b2, b3⟩ := two_bl w D p g c 26 55
  have hb : Ext w _ := (Ext.alloc w (.cells #[.slice p.AI D.ni p.cI, .slice p.AB D.nb p.cB, .slice p.AO D.no p.cO] 26)).trans (Ext.alloc _ (.cells #[.slice (some ⟨g, 0, none⟩) D.nb c] 55))
  have HB := Lib.hid hb
  have HW : Hid (∀ (i : Nat) (w' : World), i < D.nb → Ext ((w.alloc (.cells #[.slice p.AI D.ni p.cI, .slice p.AB D.nb p.cB, .slice p.AO D.no p.cO] 26)).alloc (.cells #[.slice (some ⟨g, 0, none⟩) D.nb c] 55)) w' →
      Calls Tryd.prog 76 (#[I i] ++ #[.pointer (some ⟨w.heap.size + 1, 0, none⟩), .pointer (some ⟨w.heap.size, 0, none⟩)]) w' fun e w'' => e = .returned (.bool (!P i && !isD D i)) ∧ Ext w' w'') := fun i w' hi he =>
    waits_any (d.ext (hb.trans he)) (b1.ext he) ((he.old.1 _ _ b3).trans b2) (hp.ext (hb.trans he)) i hi
  have HBD := Lib.hid b1
  have HD := Lib.hid d
  have EG := Lib.hid eg
  have HWF := Lib.hid wf
  clear b1 b2 d hp eg wf
  obtain ⟨c0, c1, c2⟩ := HBD.out
  go_enter Tryd.func60, Tryd.ntmps60
  go_wp2_with fail
  go_loopw [12] (fun s wr => ∃ j : Nat, j ≤ D.nb ∧ s = I j ∧ Hid (Ext ((w.alloc (.cells #[.slice p.AI D.ni p.cI, .slice p.AB D.nb p.cB, .slice p.AO D.no p.cO] 26)).alloc (.cells #[.slice (some ⟨g, 0, none⟩) D.nb c] 55)) wr) ∧ Hid (∀ i, i < j → rdy D P i = false)) (fun s _ => D.nb - (intOf s).toNat)
  case atStart => exact ⟨0, Nat.zero_le _, rfl, Ext.refl _, fun i hi => absurd hi (by omega)⟩
  case round =>
    obtain ⟨j, hj, rfl, hb, HG⟩ := hrel
    by_cases hlt : j < D.nb
    · obtain ⟨b, o, ha, hba, hc⟩ := (HD.out.ext (HB.out.trans hb.out)).blocks (by omega)
      obtain ⟨x0, x1, x2, x3, x4, x5⟩ := hc j hlt
      have hsz : ((w.alloc (.cells #[.slice p.AI D.ni p.cI, .slice p.AB D.nb p.cB, .slice p.AO D.no p.cO] 26)).alloc (.cells #[.slice (some ⟨g, 0, none⟩) D.nb c] 55)).heap.size ≤ wr.heap.size := hb.out.size
      have hn2 := (HWF.out.ns2 hlt).1
      have HSR : Hid (∀ w', Ext wr w' → Calls Tryd.prog 64 #[bkv (D.B j).k (p.AA j) (D.B j).n (p.cA j) (D.B j).vn (D.B j).ve (D.B j).un (D.B j).ue] w' (SrP (ns D j) (D.B j).a w')) := fun w' he =>
        sources_any (D.B j).k (p.AA j) (D.B j).n (p.cA j) (D.B j).a _ _ _ _ w' (((HD.out.ext (HB.out.trans (hb.out.trans he))).args j hlt).1) (HD.out.nA j hlt)
      have HCF : Hid (∀ A' c' w', Ext wr w' → Ri w' A' (ns D j) (D.B j).a → Calls Tryd.prog 77 #[.slice A' (ns D j) c', .func (.func 76) #[] #[.pointer (some ⟨w.heap.size + 1, 0, none⟩), .pointer (some ⟨w.heap.size, 0, none⟩)]] w' fun e w'' =>
          e = .returned (.bool (anyN (ns D j) (fun i => !P (sr D j i) && !isD D (sr D j i)))) ∧ Ext w' w'') := fun A' c' w' he r' =>
        containsFunc_any 76 _ A' (ns D j) c' (D.B j).a _ w' r' (by unfold maxLen; omega) EG.out (fun i w'' hi he' => by
          have h1 := HWF.out.src hlt hi
          have := HW.out (sr D j i) w'' h1.2.1 ((hb.out.trans he).trans he')
          rw [← h1.1] at this; exact this)
      have HR := Lib.hid (rdy_eq D P j)
      have HWJ : Hid (∀ w', j < D.nb → Ext ((w.alloc (.cells #[.slice p.AI D.ni p.cI, .slice p.AB D.nb p.cB, .slice p.AO D.no p.cO] 26)).alloc (.cells #[.slice (some ⟨g, 0, none⟩) D.nb c] 55)) w' →
        Calls Tryd.prog 76 #[I j, .pointer (some ⟨w.heap.size + 1, 0, none⟩), .pointer (some ⟨w.heap.size, 0, none⟩)] w' fun e w'' => e = .returned (.bool (!P j && !isD D j)) ∧ Ext w' w'') := HW.out j
      generalize hq1 : (!P j && !isD D j) = q1 at *
      generalize hq2 : anyN (ns D j) (fun i => !P (sr D j i) && !isD D (sr D j i)) = q2 at *
      clear hq1 hq2
      clear hc c0 c1 c2
      generalize ns D j = nj at *
      generalize (D.B j).a = fj at *
      generalize (D.B j).k = kj at *
      generalize (D.B j).n = mj at *
      generalize (D.B j).vn = vn at *
      generalize (D.B j).ve = ve at *
      generalize (D.B j).un = un at *
      generalize (D.B j).ue = ue at *
      have hlt' : (j : Int) < (D.nb : Int) := by omega
      cases q1 with
      | false =>
        have HG2 : Hid (∀ i, i < j + 1 → rdy D P i = false) := fun i hi => by
          by_cases h : i = j
          · subst h; rw [HR.out]; rfl
          · exact HG.out i (by omega)
        go_wp2_with (go_at_call 76; (with_reducible refine (HWJ.out _ hlt (hb.out.trans (Ext.alloc _ _))).mono ?_); rintro e w1 ⟨rfl, hb1⟩)
        rw [← ha]
        go_roundw
        case rel => exact ⟨j + 1, by omega, by go_num, hb.out.trans ((Ext.alloc _ _).trans hb1), HG2⟩
        case measure => simp [intOf]; omega
      | true =>
        cases q2 with
        | false =>
          have HF := Lib.hid (fstI_hit HG.out hlt (by rw [HR.out]; rfl))
          go_wp2_with (first
            | (go_at_call 76; (with_reducible refine (HWJ.out _ hlt (hb.out.trans (Ext.alloc _ _))).mono ?_); rintro e w1 ⟨rfl, hb1⟩; obtain ⟨hc1, hf1⟩ := hb1.old)
            | (go_at_call 64; (with_reducible refine (HSR.out _ ((Ext.alloc _ _).trans hb1)).mono ?_); rintro e w2 ⟨A2, c2, rfl, r2, _, hb2⟩; have R2 := Lib.hid r2; clear r2)
            | (go_at_call 77; (with_reducible refine (HCF.out A2 c2 _ (((Ext.alloc _ _).trans hb1).trans hb2) R2.out).mono ?_); rintro e w3 ⟨rfl, hb3⟩))
          go_ret
          exact ⟨by rw [HF.out]; rfl, HB.out.trans (hb.out.trans ((((Ext.alloc _ _).trans hb1).trans hb2).trans hb3))⟩
        | true =>
          have HG2 : Hid (∀ i, i < j + 1 → rdy D P i = false) := fun i hi => by
            by_cases h : i = j
            · subst h; rw [HR.out]; rfl
            · exact HG.out i (by omega)
          go_wp2_with (first
            | (go_at_call 76; (with_reducible refine (HWJ.out _ hlt (hb.out.trans (Ext.alloc _ _))).mono ?_); rintro e w1 ⟨rfl, hb1⟩; obtain ⟨hc1, hf1⟩ := hb1.old)
            | (go_at_call 64; (with_reducible refine (HSR.out _ ((Ext.alloc _ _).trans hb1)).mono ?_); rintro e w2 ⟨A2, c2, rfl, r2, _, hb2⟩; have R2 := Lib.hid r2; clear r2)
            | (go_at_call 77; (with_reducible refine (HCF.out A2 c2 _ (((Ext.alloc _ _).trans hb1).trans hb2) R2.out).mono ?_); rintro e w3 ⟨rfl, hb3⟩))
          rw [← ha]
          go_roundw
          case rel => exact ⟨j + 1, by omega, by go_num, hb.out.trans ((((Ext.alloc _ _).trans hb1).trans hb2).trans hb3), HG2⟩
          case measure => simp [intOf]; omega
    · obtain rfl : j = D.nb := by omega
      have HR := Lib.hid (fstI_none HG.out)
      go_wp2_with fail
      go_ret
      exact ⟨by rw [HR.out]; rfl, HB.out.trans hb.out⟩
end Go.Proofs.YtgajibdmihdkcaaDoor
