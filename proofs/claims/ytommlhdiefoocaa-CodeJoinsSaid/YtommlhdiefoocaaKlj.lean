/- The fixed-point machine: law CodeJoins: a program in two parts. -/
import Derived.Test.YtommlhdiefoocaaKdm
import Derived.Test.YtommlhdiefoocaaKdj
namespace Go.Proofs.Ytommlhdiefoocaa
open Go Go.RowKit

theorem kl_boxes (w : World) (G : Pgm) (p : Pp) (v0 v1 : Value) (t t' : TypeId) {W1 : World} (h : W1 = (w.alloc (.cells #[.slice p.AP G.np p.cP, .slice p.AC G.nc p.cC, .slice p.AX G.ni p.cX, .slice p.AO G.no p.cO] t)).alloc (.cells #[v0, v1] t')) :
    Px W1 w.heap.size G p ∧ W1.rowIs (w.heap.size + 1) t' 2 (b3 v0 v1 (.bool false)) ∧ Ext w W1 := by
  subst h
  exact ⟨(Px.new w G p t).ext (Ext.alloc _ _), box2r _ _ _ _ (by simp), (Ext.alloc _ _).trans (Ext.alloc _ _)⟩
def b4 (v0 v1 v2 v3 : Value) (i : Nat) : Value := if i = 0 then v0 else if i = 1 then v1 else if i = 2 then v2 else v3
theorem two_put {W w : World} {g h : Nat} {t : TypeId} {v0 v1 v2 v3 u0 u1 u2 u3 : Value} (hg : w.rowIs g t 4 (b4 v0 v1 v2 v3)) (hh : w.rowIs h t 4 (b4 u0 u1 u2 u3)) (ne : g ≠ h) (e : Ext W w) (h1 : W.heap.size ≤ g) (h2 : W.heap.size ≤ h) (a b : Value) :
    (Ext W ((w.setCell ⟨g, 2, none⟩ a).setCell ⟨h, 2, none⟩ b).drew ∧ ((w.setCell ⟨g, 2, none⟩ a).setCell ⟨h, 2, none⟩ b).drew.rowIs g t 4 (b4 v0 v1 a v3) ∧ ((w.setCell ⟨g, 2, none⟩ a).setCell ⟨h, 2, none⟩ b).drew.rowIs h t 4 (b4 u0 u1 b u3)) ∧
    (Ext W ((w.setCell ⟨h, 2, none⟩ b).setCell ⟨g, 2, none⟩ a).drew ∧ ((w.setCell ⟨h, 2, none⟩ b).setCell ⟨g, 2, none⟩ a).drew.rowIs g t 4 (b4 v0 v1 a v3) ∧ ((w.setCell ⟨h, 2, none⟩ b).setCell ⟨g, 2, none⟩ a).drew.rowIs h t 4 (b4 u0 u1 b u3)) ∧
    (Ext W ((w.setCell ⟨g, 2, none⟩ a).setCell ⟨h, 2, none⟩ b) ∧ ((w.setCell ⟨g, 2, none⟩ a).setCell ⟨h, 2, none⟩ b).rowIs g t 4 (b4 v0 v1 a v3) ∧ ((w.setCell ⟨g, 2, none⟩ a).setCell ⟨h, 2, none⟩ b).rowIs h t 4 (b4 u0 u1 b u3)) ∧
    (Ext W ((w.setCell ⟨h, 2, none⟩ b).setCell ⟨g, 2, none⟩ a) ∧ ((w.setCell ⟨h, 2, none⟩ b).setCell ⟨g, 2, none⟩ a).rowIs g t 4 (b4 v0 v1 a v3) ∧ ((w.setCell ⟨h, 2, none⟩ b).setCell ⟨g, 2, none⟩ a).rowIs h t 4 (b4 u0 u1 b u3)) := by
  have c : ∀ {x0 x1 x2 x3 y : Value} (i : Nat), i < 4 → (fun j => if j = 2 then y else b4 x0 x1 x2 x3 j) i = b4 x0 x1 y x3 i := fun i hi => by
    have : i = 0 ∨ i = 1 ∨ i = 2 ∨ i = 3 := by omega
    rcases this with h | h | h | h <;> subst h <;> rfl
  have e1 := (e.toSet (g := g) (i := 2) (u := a) h1).toSet (g := h) (i := 2) (u := b) h2
  have e2 := (e.toSet (g := h) (i := 2) (u := b) h2).toSet (g := g) (i := 2) (u := a) h1
  have g1 := (((hg.set 2 a).congr c).setOther (a := ⟨h, 2, none⟩) (show g ≠ h from ne) b)
  have g2 := ((hg.setOther (a := ⟨h, 2, none⟩) (show g ≠ h from ne) b).set 2 a).congr c
  have h1' := ((hh.setOther (a := ⟨g, 2, none⟩) (show h ≠ g from ne.symm) a).set 2 b).congr c
  have h2' := (((hh.set 2 b).congr c).setOther (a := ⟨g, 2, none⟩) (show h ≠ g from ne.symm) a)
  exact ⟨⟨e1.toDrew, g1.drew, h1'.drew⟩, ⟨e2.toDrew, g2.drew, h2'.drew⟩, ⟨e1, g1, h1'⟩, ⟨e2, g2, h2'⟩⟩
theorem two_pgms (w : World) (v0 v1 v2 v3 : Value) (t : TypeId) :
    (w.heap.size ≠ w.heap.size + 1 ∧ w.heap.size ≤ w.heap.size ∧ w.heap.size ≤ w.heap.size + 1 ∧ Ext w ((w.alloc (.cells #[v0, v1, v2, v3] t)).alloc (.cells #[v0, v1, v2, v3] t)).drew ∧ ((w.alloc (.cells #[v0, v1, v2, v3] t)).alloc (.cells #[v0, v1, v2, v3] t)).drew.rowIs w.heap.size t 4 (b4 v0 v1 v2 v3) ∧ ((w.alloc (.cells #[v0, v1, v2, v3] t)).alloc (.cells #[v0, v1, v2, v3] t)).drew.rowIs (w.heap.size + 1) t 4 (b4 v0 v1 v2 v3)) ∧
    (w.heap.size + 1 ≠ w.heap.size ∧ w.heap.size ≤ w.heap.size + 1 ∧ w.heap.size ≤ w.heap.size ∧ Ext w ((w.alloc (.cells #[v0, v1, v2, v3] t)).alloc (.cells #[v0, v1, v2, v3] t)).drew ∧ ((w.alloc (.cells #[v0, v1, v2, v3] t)).alloc (.cells #[v0, v1, v2, v3] t)).drew.rowIs (w.heap.size + 1) t 4 (b4 v0 v1 v2 v3) ∧ ((w.alloc (.cells #[v0, v1, v2, v3] t)).alloc (.cells #[v0, v1, v2, v3] t)).drew.rowIs w.heap.size t 4 (b4 v0 v1 v2 v3)) := by
  have h4 : ∀ (w : World), (w.alloc (.cells #[v0, v1, v2, v3] t)).rowIs w.heap.size t 4 (b4 v0 v1 v2 v3) := fun w => World.rowIs_alloc w #[v0, v1, v2, v3] t _ (fun i hi => by
    have : i = 0 ∨ i = 1 ∨ i = 2 ∨ i = 3 := by simp at hi; omega
    rcases this with h | h | h | h <;> subst h <;> rfl)
  have r1 := ((h4 w).alloc (.cells #[v0, v1, v2, v3] t)).drew
  have r2 := (h4 (w.alloc (.cells #[v0, v1, v2, v3] t))).drew
  rw [show (w.alloc (.cells #[v0, v1, v2, v3] t)).heap.size = w.heap.size + 1 by simp] at r2
  have e := ((Ext.alloc w (.cells #[v0, v1, v2, v3] t)).toAlloc (o := .cells #[v0, v1, v2, v3] t)).toDrew
  exact ⟨⟨by omega, by omega, by omega, e, r1, r2⟩, ⟨by omega, by omega, by omega, e, r2, r1⟩⟩
set_option maxRecDepth 100000 in
set_option maxHeartbeats 8000000 in
theorem joins_any {W : World} {G : Pgm} {p : Pp} {A B : Option Addr} {n c m e : Nat} {F E : Nat → Int} (d : Pm W G p) (hn : n ≤ maxLen) (hm : m ≤ maxLen) (ra : Ri W A n F) (rb : Ri W B m E) (_ : A = none → c = 0) {x : Int} (hx8 : 0 ≤ x ∧ x ≤ 255) :
    Calls Try.prog 6 #[pgv G p, .agg #[.slice A n c, .slice B m e], .int .u8 x] W fun e w' => e = .returned (.bool true) ∧ Ext W w' := by
  unfold maxLen at hn hm
  have HW := Lib.hid awakeP_any
  have HLI : Hid (∀ w', Ext W w' → Calls Try.prog 11 #[pgv G p] w' fun e w'' => e = .returned (.bool (litP G)) ∧ Ext w' w'') := fun w' e => lightP_any (d.ext e)
  have HCK : Hid (∀ w', Ext W w' → Calls Try.prog 12 #[pgv G p] w' fun e w'' => e = .returned (I (chP G)) ∧ Ext w' w'') := fun w' e => RCheck_any (d.ext e)
  obtain ⟨W1, hW1⟩ : ∃ W1, W1 = (W.alloc (.cells #[.slice p.AP G.np p.cP, .slice p.AC G.nc p.cC, .slice p.AX G.ni p.cX, .slice p.AO G.no p.cO] 26)).alloc (.cells #[.slice A n c, .slice B m e] 44) := ⟨_, rfl⟩
  obtain ⟨b1, b2, b3'⟩ := kl_boxes W G p _ _ _ _ hW1
  have HC : Hid (∀ w', Ext W1 w' → Px w' W.heap.size G p) := fun w' e => b1.ext e
  have HX := Lib.hid b2
  have HE := Lib.hid b3'
  have l0 : W1.cell? ⟨W.heap.size + 1, 0, none⟩ = some (.slice A n c) := b2.cell (by omega)
  have l1 : W1.cell? ⟨W.heap.size + 1, 1, none⟩ = some (.slice B m e) := b2.cell (by omega)
  obtain ⟨p0, p1, p2, p3⟩ := b1
  have hx := Ext.refl W1
  clear b2 b3'
  have HD := Lib.hid d
  have HRa := Lib.hid ra
  have HRb := Lib.hid rb
  clear d ra rb
  go_enter Try.func6, Try.ntmps6
  go_upto_region 1 with fail
  rw [← hW1]; clear hW1
  cases hL : litP G
  · rw [hL] at HLI
    go_wp2_with (first | (go_at_call 10; (with_reducible refine (HW.out _).mono ?_); rintro e1 w1 ⟨rfl, hb1⟩; replace hx := hx.trans hb1; clear hb1; clear p0 p1 p2 p3 l0 l1; obtain ⟨p0, p1, p2, p3⟩ := HC.out _ hx; have l0 : w1.cell? ⟨W.heap.size + 1, 0, none⟩ = some (.slice A n c) := (HX.out.ext hx).cell (by omega); have l1 : w1.cell? ⟨W.heap.size + 1, 1, none⟩ = some (.slice B m e) := (HX.out.ext hx).cell (by omega)) | (go_at_call 11; (with_reducible refine (HLI.out _ (HE.out.trans hx)).mono ?_); rintro e1 w1 ⟨rfl, hb1⟩; replace hx := hx.trans hb1; clear hb1; clear p0 p1 p2 p3 l0 l1; obtain ⟨p0, p1, p2, p3⟩ := HC.out _ hx; have l0 : w1.cell? ⟨W.heap.size + 1, 0, none⟩ = some (.slice A n c) := (HX.out.ext hx).cell (by omega); have l1 : w1.cell? ⟨W.heap.size + 1, 1, none⟩ = some (.slice B m e) := (HX.out.ext hx).cell (by omega)) | (go_at_call 12; (with_reducible refine (HCK.out _ (HE.out.trans hx)).mono ?_); rintro e1 w1 ⟨rfl, hb1⟩; replace hx := hx.trans hb1; clear hb1; clear p0 p1 p2 p3 l0 l1; obtain ⟨p0, p1, p2, p3⟩ := HC.out _ hx; have l0 : w1.cell? ⟨W.heap.size + 1, 0, none⟩ = some (.slice A n c) := (HX.out.ext hx).cell (by omega); have l1 : w1.cell? ⟨W.heap.size + 1, 1, none⟩ = some (.slice B m e) := (HX.out.ext hx).cell (by omega)))
    go_ret
    exact ⟨rfl, HE.out.trans hx⟩
  · rw [hL] at HLI
    by_cases hn3 : 300 < n
    · have hn3' : (300 : Int) < (n : Int) := by omega
      go_wp2_with (first | (go_at_call 10; (with_reducible refine (HW.out _).mono ?_); rintro e1 w1 ⟨rfl, hb1⟩; replace hx := hx.trans hb1; clear hb1; clear p0 p1 p2 p3 l0 l1; obtain ⟨p0, p1, p2, p3⟩ := HC.out _ hx; have l0 : w1.cell? ⟨W.heap.size + 1, 0, none⟩ = some (.slice A n c) := (HX.out.ext hx).cell (by omega); have l1 : w1.cell? ⟨W.heap.size + 1, 1, none⟩ = some (.slice B m e) := (HX.out.ext hx).cell (by omega)) | (go_at_call 11; (with_reducible refine (HLI.out _ (HE.out.trans hx)).mono ?_); rintro e1 w1 ⟨rfl, hb1⟩; replace hx := hx.trans hb1; clear hb1; clear p0 p1 p2 p3 l0 l1; obtain ⟨p0, p1, p2, p3⟩ := HC.out _ hx; have l0 : w1.cell? ⟨W.heap.size + 1, 0, none⟩ = some (.slice A n c) := (HX.out.ext hx).cell (by omega); have l1 : w1.cell? ⟨W.heap.size + 1, 1, none⟩ = some (.slice B m e) := (HX.out.ext hx).cell (by omega)) | (go_at_call 12; (with_reducible refine (HCK.out _ (HE.out.trans hx)).mono ?_); rintro e1 w1 ⟨rfl, hb1⟩; replace hx := hx.trans hb1; clear hb1; clear p0 p1 p2 p3 l0 l1; obtain ⟨p0, p1, p2, p3⟩ := HC.out _ hx; have l0 : w1.cell? ⟨W.heap.size + 1, 0, none⟩ = some (.slice A n c) := (HX.out.ext hx).cell (by omega); have l1 : w1.cell? ⟨W.heap.size + 1, 1, none⟩ = some (.slice B m e) := (HX.out.ext hx).cell (by omega)))
      go_ret
      exact ⟨rfl, HE.out.trans hx⟩
    · have hn3' : ¬ (300 : Int) < (n : Int) := by omega
      by_cases hm6 : 60 < m
      · have hm6' : (60 : Int) < (m : Int) := by omega
        go_wp2_with (first | (go_at_call 10; (with_reducible refine (HW.out _).mono ?_); rintro e1 w1 ⟨rfl, hb1⟩; replace hx := hx.trans hb1; clear hb1; clear p0 p1 p2 p3 l0 l1; obtain ⟨p0, p1, p2, p3⟩ := HC.out _ hx; have l0 : w1.cell? ⟨W.heap.size + 1, 0, none⟩ = some (.slice A n c) := (HX.out.ext hx).cell (by omega); have l1 : w1.cell? ⟨W.heap.size + 1, 1, none⟩ = some (.slice B m e) := (HX.out.ext hx).cell (by omega)) | (go_at_call 11; (with_reducible refine (HLI.out _ (HE.out.trans hx)).mono ?_); rintro e1 w1 ⟨rfl, hb1⟩; replace hx := hx.trans hb1; clear hb1; clear p0 p1 p2 p3 l0 l1; obtain ⟨p0, p1, p2, p3⟩ := HC.out _ hx; have l0 : w1.cell? ⟨W.heap.size + 1, 0, none⟩ = some (.slice A n c) := (HX.out.ext hx).cell (by omega); have l1 : w1.cell? ⟨W.heap.size + 1, 1, none⟩ = some (.slice B m e) := (HX.out.ext hx).cell (by omega)) | (go_at_call 12; (with_reducible refine (HCK.out _ (HE.out.trans hx)).mono ?_); rintro e1 w1 ⟨rfl, hb1⟩; replace hx := hx.trans hb1; clear hb1; clear p0 p1 p2 p3 l0 l1; obtain ⟨p0, p1, p2, p3⟩ := HC.out _ hx; have l0 : w1.cell? ⟨W.heap.size + 1, 0, none⟩ = some (.slice A n c) := (HX.out.ext hx).cell (by omega); have l1 : w1.cell? ⟨W.heap.size + 1, 1, none⟩ = some (.slice B m e) := (HX.out.ext hx).cell (by omega)))
        go_ret
        exact ⟨rfl, HE.out.trans hx⟩
      · have hm6' : ¬ (60 : Int) < (m : Int) := by omega
        by_cases hc : chP G = 0
        · rw [hc] at HCK
          go_upto_region 3 with (first | (go_at_call 10; (with_reducible refine (HW.out _).mono ?_); rintro e1 w1 ⟨rfl, hb1⟩; replace hx := hx.trans hb1; clear hb1; clear p0 p1 p2 p3 l0 l1; obtain ⟨p0, p1, p2, p3⟩ := HC.out _ hx; have l0 : w1.cell? ⟨W.heap.size + 1, 0, none⟩ = some (.slice A n c) := (HX.out.ext hx).cell (by omega); have l1 : w1.cell? ⟨W.heap.size + 1, 1, none⟩ = some (.slice B m e) := (HX.out.ext hx).cell (by omega)) | (go_at_call 11; (with_reducible refine (HLI.out _ (HE.out.trans hx)).mono ?_); rintro e1 w1 ⟨rfl, hb1⟩; replace hx := hx.trans hb1; clear hb1; clear p0 p1 p2 p3 l0 l1; obtain ⟨p0, p1, p2, p3⟩ := HC.out _ hx; have l0 : w1.cell? ⟨W.heap.size + 1, 0, none⟩ = some (.slice A n c) := (HX.out.ext hx).cell (by omega); have l1 : w1.cell? ⟨W.heap.size + 1, 1, none⟩ = some (.slice B m e) := (HX.out.ext hx).cell (by omega)) | (go_at_call 12; (with_reducible refine (HCK.out _ (HE.out.trans hx)).mono ?_); rintro e1 w1 ⟨rfl, hb1⟩; replace hx := hx.trans hb1; clear hb1; clear p0 p1 p2 p3 l0 l1; obtain ⟨p0, p1, p2, p3⟩ := HC.out _ hx; have l0 : w1.cell? ⟨W.heap.size + 1, 0, none⟩ = some (.slice A n c) := (HX.out.ext hx).cell (by omega); have l1 : w1.cell? ⟨W.heap.size + 1, 1, none⟩ = some (.slice B m e) := (HX.out.ext hx).cell (by omega)))
          clear hL hn3' hm6' HLI HCK HW
          have HFT : Hid (∀ w', Ext W w' → Calls Try.prog 22 #[pgv G p, .agg #[.slice A n c, .slice B m e]] w' (FtR G n F m E w')) := fun w' e => fitP_any (HD.out.ext e) hc (HRa.out.ext e) (HRb.out.ext e) (by unfold maxLen; omega) (by unfold maxLen; omega)
          have ok := chP_ok hc
          have n3 := ok.ni
          go_upto_region 4 with (go_at_call 22; (with_reducible refine (HFT.out _ (HE.out.trans hx)).mono ?_); rintro e2 w4 ⟨A', k', B', l', rfl, rA, rB, zA, hx4⟩)
          have HY := Lib.hid (box2r w4 (.slice A' G.nc k') (.slice B' G.np l') 44 rfl)
          have HRA := Lib.hid (rA.ext (Ext.alloc w4 (.cells #[.slice A' G.nc k', .slice B' G.np l'] 44)))
          have HRB := Lib.hid (rB.ext (Ext.alloc w4 (.cells #[.slice A' G.nc k', .slice B' G.np l'] 44)))
          have HZA := Lib.hid zA
          have hx5 := (hx.trans hx4).toAlloc (o := .cells #[.slice A' G.nc k', .slice B' G.np l'] 44)
          obtain ⟨W4, hW4⟩ : ∃ W4, W4 = w4.alloc (.cells #[.slice A' G.nc k', .slice B' G.np l'] 44) := ⟨_, rfl⟩
          rw [← hW4] at HY HRA HRB hx5 ⊢
          clear hW4 rA rB zA hx hx4 p0 p1 p2 p3 l0 l1 HFT
          generalize w4.heap.size = gy at *
          have HE4 := Lib.hid (HE.out.trans hx5)
          obtain ⟨p0, p1, p2, p3⟩ := HC.out _ hx5
          have hw1 : IntKind.i64.wrap ((G.ni : Int) + 1) = (G.ni : Int) + 1 := IntWalk.i64_in _ (by omega)
          obtain ⟨kk, hkk⟩ : ∃ kk : Nat, x % ((G.ni : Int) + 1) = kk := ⟨(x % ((G.ni : Int) + 1)).toNat, by have := Int.emod_nonneg x (show (G.ni : Int) + 1 ≠ 0 by omega); omega⟩
          have hkl : kk ≤ G.ni := by have := Int.emod_lt_of_pos x (show (0 : Int) < (G.ni : Int) + 1 by omega); omega
          go_upto_region 5 with fail
          rw [hkk]
          have HS : Hid (∀ w', Ext W4 w' → Px w' W.heap.size G p) := fun w' e => HC.out _ (hx5.trans e)
          have HXc := Lib.hid hx5
          have HTW := Lib.hid (two_pgms W4 (.slice p.AP G.np p.cP) (.slice p.AC G.nc p.cC) (.slice p.AX G.ni p.cX) (.slice p.AO G.no p.cO) 26)
          have hz4 : W.heap.size < W4.heap.size := (HC.out _ hx5).lt
          go_cut [9, 10] (fun s9 s10 wx => ∃ g h, s9 = .pointer (some ⟨g, 0, none⟩) ∧ s10 = .pointer (some ⟨h, 0, none⟩) ∧ Hid (g ≠ h ∧ W4.heap.size ≤ g ∧ W4.heap.size ≤ h ∧ Ext W4 wx ∧ wx.rowIs g 26 4 (b4 (.slice p.AP G.np p.cP) (.slice p.AC G.nc p.cC) (.slice p.AX G.ni p.cX) (.slice p.AO G.no p.cO)) ∧ wx.rowIs h 26 4 (b4 (.slice p.AP G.np p.cP) (.slice p.AC G.nc p.cC) (.slice p.AX G.ni p.cX) (.slice p.AO G.no p.cO))))
          case first =>
            go_region_held3 (fun w' => w'.cell? ⟨W.heap.size, 0, none⟩ = some (.slice p.AP G.np p.cP) ∧ w'.cell? ⟨W.heap.size, 1, none⟩ = some (.slice p.AC G.nc p.cC) ∧ w'.cell? ⟨W.heap.size, 2, none⟩ = some (.slice p.AX G.ni p.cX) ∧ w'.cell? ⟨W.heap.size, 3, none⟩ = some (.slice p.AO G.no p.cO)) (first | with_reducible assumption | exact (HS.out _ (by (with_reducible (repeat (first | exact Ext.refl _ | assumption | (refine Ext.toSet ?_ (by omega)) | refine Ext.toAlloc ?_ | refine Ext.toDrew ?_ | refine Ext.toDrewN ?_ | refine Ext.trans ?_ (by assumption)))); (first | done | fail "no"))).c0 | exact (HS.out _ (by (with_reducible (repeat (first | exact Ext.refl _ | assumption | (refine Ext.toSet ?_ (by omega)) | refine Ext.toAlloc ?_ | refine Ext.toDrew ?_ | refine Ext.toDrewN ?_ | refine Ext.trans ?_ (by assumption)))); (first | done | fail "no"))).c1 | exact (HS.out _ (by (with_reducible (repeat (first | exact Ext.refl _ | assumption | (refine Ext.toSet ?_ (by omega)) | refine Ext.toAlloc ?_ | refine Ext.toDrew ?_ | refine Ext.toDrewN ?_ | refine Ext.trans ?_ (by assumption)))); (first | done | fail "no"))).c2 | exact (HS.out _ (by (with_reducible (repeat (first | exact Ext.refl _ | assumption | (refine Ext.toSet ?_ (by omega)) | refine Ext.toAlloc ?_ | refine Ext.toDrew ?_ | refine Ext.toDrewN ?_ | refine Ext.trans ?_ (by assumption)))); (first | done | fail "no"))).c3 | exact ⟨(HS.out _ (by (with_reducible (repeat (first | exact Ext.refl _ | assumption | (refine Ext.toSet ?_ (by omega)) | refine Ext.toAlloc ?_ | refine Ext.toDrew ?_ | refine Ext.toDrewN ?_ | refine Ext.trans ?_ (by assumption)))); (first | done | fail "no"))).c0, (HS.out _ (by (with_reducible (repeat (first | exact Ext.refl _ | assumption | (refine Ext.toSet ?_ (by omega)) | refine Ext.toAlloc ?_ | refine Ext.toDrew ?_ | refine Ext.toDrewN ?_ | refine Ext.trans ?_ (by assumption)))); (first | done | fail "no"))).c1, (HS.out _ (by (with_reducible (repeat (first | exact Ext.refl _ | assumption | (refine Ext.toSet ?_ (by omega)) | refine Ext.toAlloc ?_ | refine Ext.toDrew ?_ | refine Ext.toDrewN ?_ | refine Ext.trans ?_ (by assumption)))); (first | done | fail "no"))).c2, (HS.out _ (by (with_reducible (repeat (first | exact Ext.refl _ | assumption | (refine Ext.toSet ?_ (by omega)) | refine Ext.toAlloc ?_ | refine Ext.toDrew ?_ | refine Ext.toDrewN ?_ | refine Ext.trans ?_ (by assumption)))); (first | done | fail "no"))).c3⟩) (fail)
            all_goals
              go_wp2_with fail
              go_meet
              (first | exact ⟨_, _, rfl, rfl, HTW.out.1⟩ | exact ⟨_, _, rfl, rfl, HTW.out.2⟩)
          case rest =>
            obtain ⟨g, h, rfl, rfl, H5⟩ := hcut
            have hgh := H5.out.1
            have hg4 := H5.out.2.1
            have hh4 := H5.out.2.2.1
            have HS6 : Hid (∀ w', Ext wc w' → Px w' W.heap.size G p) := fun w' e => HS.out _ (H5.out.2.2.2.1.trans e)
            obtain ⟨p0, p1, p2, p3⟩ := HS6.out _ (Ext.refl _)
            have hgl := H5.out.2.2.2.2.1.lt
            have hhl := H5.out.2.2.2.2.2.lt
            have gc2 : wc.cell? ⟨g, 2, none⟩ = some (.slice p.AX G.ni p.cX) := H5.out.2.2.2.2.1.cell (by omega)
            have hc2 : wc.cell? ⟨h, 2, none⟩ = some (.slice p.AX G.ni p.cX) := H5.out.2.2.2.2.2.cell (by omega)
            have gf2 := H5.out.2.2.2.2.1.frozen 2
            have hf2 := H5.out.2.2.2.2.2.frozen 2
            have hgp : W.heap.size ≠ g := by omega
            have hhp : W.heap.size ≠ h := by omega
            have hkX : kk ≤ p.cX := Nat.le_trans hkl HD.out.kX
            have hkl' : (kk : Int) ≤ (G.ni : Int) := by omega
            have hkX' : (kk : Int) ≤ (p.cX : Int) := by omega
            go_upto_region 6 with fail
            have HTP := Lib.hid (two_put H5.out.2.2.2.2.1 H5.out.2.2.2.2.2 hgh H5.out.2.2.2.1 hg4 hh4 (.slice p.AX kk p.cX) (.slice (if p.cX = kk then p.AX else Option.map (fun x => x.add (kk * 7)) p.AX) (G.ni - kk) (p.cX - kk)))
            have HTR := Lib.hid (two_put H5.out.2.2.2.2.1 H5.out.2.2.2.2.2 hgh H5.out.2.2.2.1 hg4 hh4 (.slice p.AX kk kk) (.slice p.AX (G.ni - kk) 0))
            have HTS := Lib.hid (two_put H5.out.2.2.2.2.1 H5.out.2.2.2.2.2 hgh H5.out.2.2.2.1 hg4 hh4 (.slice p.AX kk p.cX) (.slice (Option.map (fun x => x.add (kk * 7)) p.AX) (G.ni - kk) (p.cX - kk)))
            have HV3 : Hid (¬ p.cX = kk → Value.slice (if p.cX = kk then p.AX else Option.map (fun x => x.add (kk * 7)) p.AX) (G.ni - kk) (p.cX - kk) = (.slice (Option.map (fun x => x.add (kk * 7)) p.AX) (G.ni - kk) (p.cX - kk))) := fun hck => by rw [if_neg hck]
            have HV1 : Hid (p.cX = kk → Value.slice p.AX kk p.cX = .slice p.AX kk kk) := fun hck => by rw [hck]
            have HV2 : Hid (p.cX = kk → Value.slice (if p.cX = kk then p.AX else Option.map (fun x => x.add (kk * 7)) p.AX) (G.ni - kk) (p.cX - kk) = .slice p.AX (G.ni - kk) 0) := fun hck => by rw [if_pos hck, hck, Nat.sub_self]
            obtain ⟨wy, hwy⟩ : ∃ wy, wy = wc := ⟨_, rfl⟩
            subst hwy
            go_cut [] (fun wz => Ext W4 wz ∧ wz.rowIs g 26 4 (b4 (.slice p.AP G.np p.cP) (.slice p.AC G.nc p.cC) (.slice p.AX kk p.cX) (.slice p.AO G.no p.cO)) ∧ wz.rowIs h 26 4 (b4 (.slice p.AP G.np p.cP) (.slice p.AC G.nc p.cC) (.slice (if p.cX = kk then p.AX else Option.map (fun x => x.add (kk * 7)) p.AX) (G.ni - kk) (p.cX - kk)) (.slice p.AO G.no p.cO)))
            case first =>
              go_region_law (fail)
              all_goals
                go_wp2_with fail
                all_goals
                  go_meet
                  (first | exact HTP.out.1 | exact HTP.out.2.1 | exact HTP.out.2.2.1 | exact HTP.out.2.2.2 | (have hck : p.cX = kk := (by assumption); rw [HV1.out hck, HV2.out hck]; (first | exact HTR.out.1 | exact HTR.out.2.1 | exact HTR.out.2.2.1 | exact HTR.out.2.2.2)) | (have hck : ¬ p.cX = kk := (by assumption); rw [HV3.out hck]; (first | exact HTS.out.1 | exact HTS.out.2.1 | exact HTS.out.2.2.1 | exact HTS.out.2.2.2)))
            case rest =>
              have HCU := Lib.hid hcut
              clear hcut HTP H5 HS6 HS gc2 hc2 gf2 hf2 p0 p1 p2 p3 hgl hhl HTW hx5 hz4
              obtain ⟨AXb, hAXb⟩ : ∃ AXb, (if p.cX = kk then p.AX else Option.map (fun x => x.add (kk * 7)) p.AX) = AXb := ⟨_, rfl⟩
              rw [hAXb] at HCU
              have HAXb := Lib.hid hAXb
              clear hAXb
              obtain ⟨Ga, hGa⟩ : ∃ Ga : Pgm, Ga = ⟨G.np, G.P, G.nc, G.C, kk, G.X, G.no, G.O⟩ := ⟨_, rfl⟩
              obtain ⟨Gb, hGb⟩ : ∃ Gb : Pgm, Gb = ⟨G.np, G.P, G.nc, G.C, G.ni - kk, fun j => G.X (kk + j), G.no, G.O⟩ := ⟨_, rfl⟩
              obtain ⟨pb, hpb⟩ : ∃ pb : Pp, pb = ⟨p.AP, p.cP, p.AC, p.cC, AXb, p.cX - kk, p.AO, p.cO⟩ := ⟨_, rfl⟩
              have HPa : Hid (∀ w', Ext W w' → Pm w' Ga p) := fun w' e => by
                have d := HD.out.ext e
                rw [hGa]
                exact ⟨d.ports, d.init, fun h0 => by obtain ⟨b, o, ea, hb, hcl⟩ := d.code (show 0 < G.ni by have : 0 < kk := h0; omega); exact ⟨b, o, ea, hb, fun i hi => hcl i (by have : i < kk := hi; omega)⟩, d.outs, d.lp, d.lc, Nat.le_trans hkl d.lx, d.lo, d.nC, hkX⟩
              have HPb : Hid (∀ w', Ext W w' → Pm w' Gb pb) := fun w' e => by
                have d := HD.out.ext e
                rw [hGb, hpb]
                refine ⟨d.ports, d.init, fun h0 => ?_, d.outs, d.lp, d.lc, Nat.le_trans (Nat.sub_le _ _) d.lx, d.lo, d.nC, Nat.sub_le_sub_right d.kX kk⟩
                have h0' : 0 < G.ni - kk := h0
                obtain ⟨b, o, ea, hb, hcl⟩ := d.code (by omega)
                refine ⟨b, o + kk * 7, ?_, hb, fun i hi => ?_⟩
                · show AXb = _
                  rw [← HAXb.out, if_neg (by have := HD.out.kX; omega), ea]
                  show some ((⟨b, o, none⟩ : Addr).add (kk * 7)) = _
                  rw [Go.WideShapes.add_plain]
                · have hi' : i < G.ni - kk := hi
                  have := hcl (kk + i) (by omega)
                  rw [show o + (kk + i) * 7 = o + kk * 7 + i * 7 by omega] at this
                  exact this
              have HOa : Hid (chP Ga = 0) := by
                show _ = _; rw [hGa]; exact chP_of ⟨ok.np, ok.nc, by show kk ≤ 256; omega, ok.no, ok.prt, ok.wd, fun i hi => ok.ins i (by have : i < kk := hi; omega), ok.out⟩
              have HOb : Hid (chP Gb = 0) := by
                show _ = _; rw [hGb]; exact chP_of ⟨ok.np, ok.nc, by show G.ni - kk ≤ 256; omega, ok.no, ok.prt, ok.wd, fun i hi => ok.ins (kk + i) (by have : i < G.ni - kk := hi; omega), ok.out⟩
              have HJ := Lib.hid (runC_join (X := G.X) (IN := ftI G m E) (c := ftC n F) kk (G.ni - kk))
              rw [show kk + (G.ni - kk) = G.ni by omega] at HJ
              have hnc2 := ok.nc
              have hno2 := ok.no
              have HWDc : Hid (∀ i, i < G.nc → wdB ((runC G.X (ftI G m E) (ftC n F) kk).1 i) = true) := runC_wd (fun i _ => ftC_wd n F i) kk
              clear ok hkl hg4 hh4 hgh hkX hkl' hkX' hgp hhp hw1 HTR HTS HV1 HV2 HV3 hn hm
              have y0 : wc.cell? ⟨gy, 0, none⟩ = some (.slice A' G.nc k') := (HY.out.ext HCU.out.1).cell (by omega)
              have y1 : wc.cell? ⟨gy, 1, none⟩ = some (.slice B' G.np l') := (HY.out.ext HCU.out.1).cell (by omega)
              have HPX : Hid (∀ w', Ext W4 w' → Px w' W.heap.size G p) := fun w' e => HC.out _ (HXc.out.trans e)
              obtain ⟨p0, p1, p2, p3⟩ := HPX.out _ HCU.out.1
              have HRUN : Hid (Calls Try.prog 15 #[pgv G p, .slice A' G.nc k', .slice B' G.np l'] wc (RunR G (ftC n F) (ftI G m E) wc)) := Run_ok (HD.out.ext (HE4.out.trans HCU.out.1)) hc (HRA.out.ext HCU.out.1) (HRB.out.ext HCU.out.1) HZA.out (ft_ok hc n m F E)
              unfold RunR at HRUN
              go_upto_region 8 with (go_at_call 15; (with_reducible refine HRUN.out.mono ?_); rintro e2 w6 ⟨Aw, kw, Bw, lw, rfl, r1, r2, _, _, _, _, _, hx6⟩)
              have HQ1 := Lib.hid (box3r w6 (.slice Aw G.nc kw) (.slice Bw G.no lw) (.bool (runC G.X (ftI G m E) (ftC n F) G.ni).2) 35)
              have HX6 := Lib.hid (hx6.toAlloc (o := .cells #[.slice Aw G.nc kw, .slice Bw G.no lw, .bool (runC G.X (ftI G m E) (ftC n F) G.ni).2] 35))
              have HRW1 := Lib.hid (r1.ext (Ext.alloc w6 (.cells #[.slice Aw G.nc kw, .slice Bw G.no lw, .bool (runC G.X (ftI G m E) (ftC n F) G.ni).2] 35)))
              have HRW2 := Lib.hid (r2.ext (Ext.alloc w6 (.cells #[.slice Aw G.nc kw, .slice Bw G.no lw, .bool (runC G.X (ftI G m E) (ftC n F) G.ni).2] 35)))
              obtain ⟨W6, hW6⟩ : ∃ W6, W6 = w6.alloc (.cells #[.slice Aw G.nc kw, .slice Bw G.no lw, .bool (runC G.X (ftI G m E) (ftC n F) G.ni).2] 35) := ⟨_, rfl⟩
              rw [← hW6] at HQ1 HX6 HRW1 HRW2 ⊢
              clear hW6 hx6 r1 r2 HRUN y0 y1 p0 p1 p2 p3
              generalize w6.heap.size = gw at *
              obtain ⟨RF, hRF⟩ : ∃ RF, (runC G.X (ftI G m E) (ftC n F) kk).1 = RF := ⟨_, rfl⟩
              obtain ⟨o1, ho1⟩ : ∃ o1, (runC G.X (ftI G m E) (ftC n F) kk).2 = o1 := ⟨_, rfl⟩
              have HRUNa : Hid (Calls Try.prog 15 #[.agg #[.slice p.AP G.np p.cP, .slice p.AC G.nc p.cC, .slice p.AX kk p.cX, .slice p.AO G.no p.cO], .slice A' G.nc k', .slice B' G.np l'] W6 fun e w' => ∃ A k B l, e = .returned (.tuple #[.agg #[.slice A G.nc k, .slice B G.no l, .bool o1], .nilIface]) ∧ Ri w' A G.nc RF ∧ (A = none → k = 0) ∧ Ext W6 w') := by
                rw [← hRF, ← ho1]
                have hda : daE Ga Ga.nc (ftC n F) G.np (ftI G m E) = 0 := by rw [hGa]; exact ft_ok hc n m F E
                have hr := Run_ok (cA := k') (cB := l') (HPa.out W6 (HE4.out.trans (HCU.out.1.trans HX6.out))) HOa.out (by rw [hGa]; exact HRA.out.ext (HCU.out.1.trans HX6.out)) (HRB.out.ext (HCU.out.1.trans HX6.out)) HZA.out hda
                subst hGa
                exact hr.mono fun e w' ⟨A, k, B, l, he, r1, _, z, _, _, _, _, hx⟩ => ⟨A, k, B, l, he, r1, z, hx⟩
              have y0 : W6.cell? ⟨gy, 0, none⟩ = some (.slice A' G.nc k') := (HY.out.ext (HCU.out.1.trans HX6.out)).cell (by omega)
              have y1 : W6.cell? ⟨gy, 1, none⟩ = some (.slice B' G.np l') := (HY.out.ext (HCU.out.1.trans HX6.out)).cell (by omega)
              have g0 : W6.cell? ⟨g, 0, none⟩ = some (.slice p.AP G.np p.cP) := (HCU.out.2.1.ext HX6.out).cell (by omega)
              have g1 : W6.cell? ⟨g, 1, none⟩ = some (.slice p.AC G.nc p.cC) := (HCU.out.2.1.ext HX6.out).cell (by omega)
              have g2 : W6.cell? ⟨g, 2, none⟩ = some (.slice p.AX kk p.cX) := (HCU.out.2.1.ext HX6.out).cell (by omega)
              have g3 : W6.cell? ⟨g, 3, none⟩ = some (.slice p.AO G.no p.cO) := (HCU.out.2.1.ext HX6.out).cell (by omega)
              go_upto_region 9 with (go_at_call 15; (with_reducible refine HRUNa.out.mono ?_); rintro e2 w8 ⟨Af, kf, Bf, lf, rfl, r1, zf, hx8⟩)
              have HQ2 := Lib.hid (box3r w8 (.slice Af G.nc kf) (.slice Bf G.no lf) (.bool o1) 35)
              have HX8 := Lib.hid (hx8.toAlloc (o := (.cells #[.slice Af G.nc kf, .slice Bf G.no lf, .bool o1] 35)))
              have HRF := Lib.hid (r1.ext (Ext.alloc w8 (.cells #[.slice Af G.nc kf, .slice Bf G.no lf, .bool o1] 35)))
              have HZF := Lib.hid zf
              obtain ⟨W8, hW8⟩ : ∃ W8, W8 = w8.alloc (.cells #[.slice Af G.nc kf, .slice Bf G.no lf, .bool o1] 35) := ⟨_, rfl⟩
              rw [← hW8] at HQ2 HX8 HRF ⊢
              clear hW8 hx8 r1 zf HRUNa y0 y1 g0 g1 g2 g3
              generalize w8.heap.size = gf at *
              obtain ⟨RS, hRS⟩ : ∃ RS, (runC (fun j => G.X (kk + j)) (ftI G m E) RF (G.ni - kk)).1 = RS := ⟨_, rfl⟩
              obtain ⟨o2, ho2⟩ : ∃ o2, (runC (fun j => G.X (kk + j)) (ftI G m E) RF (G.ni - kk)).2 = o2 := ⟨_, rfl⟩
              have HRUNb : Hid (Calls Try.prog 15 #[.agg #[.slice p.AP G.np p.cP, .slice p.AC G.nc p.cC, .slice AXb (G.ni - kk) (p.cX - kk), .slice p.AO G.no p.cO], .slice Af G.nc kf, .slice B' G.np l'] W8 fun e w' => ∃ A k B l, e = .returned (.tuple #[.agg #[.slice A G.nc k, .slice B G.no l, .bool o2], .nilIface]) ∧ Ri w' A G.nc RS ∧ Ri w' B G.no (fun i => RS (G.O i).toNat) ∧ Ext W8 w') := by
                rw [← hRS, ← ho2]
                have hw : ∀ i, i < G.nc → wdB (RF i) = true := by rw [← hRF]; exact HWDc.out
                have hda : daE Gb Gb.nc RF G.np (ftI G m E) = 0 := by rw [hGb]; exact daE_of (G := ⟨G.np, G.P, G.nc, G.C, G.ni - kk, fun j => G.X (kk + j), G.no, G.O⟩) hw (fun i hi => ftI_rg (chP_ok hc).prt m E i hi)
                have hr := Run_ok (cA := kf) (cB := l') (HPb.out W8 (HE4.out.trans (HCU.out.1.trans (HX6.out.trans HX8.out)))) HOb.out (by rw [hGb]; exact HRF.out) (HRB.out.ext (HCU.out.1.trans (HX6.out.trans HX8.out))) HZF.out hda
                subst hGb
                subst hpb
                exact hr.mono fun e w' ⟨A, k, B, l, he, r1, r2, _, _, _, _, _, hx⟩ => ⟨A, k, B, l, he, r1, r2, hx⟩
              have HJ1 : Hid ((runC G.X (ftI G m E) (ftC n F) G.ni).1 = RS) := by show _ = _; rw [HJ.out.1, hRF, hRS]
              have HJ2 : Hid ((runC G.X (ftI G m E) (ftC n F) G.ni).2 = (o1 || o2)) := by show _ = _; rw [HJ.out.2, ho1, hRF, ho2]
              rw [HJ1.out] at HRW1 HRW2
              rw [HJ2.out] at HQ1
              clear hRF ho1 hRS ho2 hGa hGb hpb HJ HWDc HPa HPb HOa HOb
              have f0 : W8.cell? ⟨gf, 0, none⟩ = some (.slice Af G.nc kf) := HQ2.out.cell (by omega)
              have y1 : W8.cell? ⟨gy, 1, none⟩ = some (.slice B' G.np l') := (HY.out.ext (HCU.out.1.trans (HX6.out.trans HX8.out))).cell (by omega)
              have g0 : W8.cell? ⟨h, 0, none⟩ = some (.slice p.AP G.np p.cP) := (HCU.out.2.2.ext (HX6.out.trans HX8.out)).cell (by omega)
              have g1 : W8.cell? ⟨h, 1, none⟩ = some (.slice p.AC G.nc p.cC) := (HCU.out.2.2.ext (HX6.out.trans HX8.out)).cell (by omega)
              have g2 : W8.cell? ⟨h, 2, none⟩ = some (.slice AXb (G.ni - kk) (p.cX - kk)) := (HCU.out.2.2.ext (HX6.out.trans HX8.out)).cell (by omega)
              have g3 : W8.cell? ⟨h, 3, none⟩ = some (.slice p.AO G.no p.cO) := (HCU.out.2.2.ext (HX6.out.trans HX8.out)).cell (by omega)
              go_upto_region 12 with (go_at_call 15; (with_reducible refine HRUNb.out.mono ?_); rintro e2 w9 ⟨As, ks, Bs, ls, rfl, r1, r2, hx9⟩)
              have HQ3 := Lib.hid (box3r w9 (.slice As G.nc ks) (.slice Bs G.no ls) (.bool o2) 35)
              have HX9 := Lib.hid (hx9.toAlloc (o := (.cells #[.slice As G.nc ks, .slice Bs G.no ls, .bool o2] 35)))
              have HS1 := Lib.hid (r1.ext (Ext.alloc w9 (.cells #[.slice As G.nc ks, .slice Bs G.no ls, .bool o2] 35)))
              have HS2 := Lib.hid (r2.ext (Ext.alloc w9 (.cells #[.slice As G.nc ks, .slice Bs G.no ls, .bool o2] 35)))
              obtain ⟨W9, hW9⟩ : ∃ W9, W9 = w9.alloc (.cells #[.slice As G.nc ks, .slice Bs G.no ls, .bool o2] 35) := ⟨_, rfl⟩
              rw [← hW9] at HQ3 HX9 HS1 HS2 ⊢
              clear hW9 hx9 r1 r2 HRUNb f0 y1 g0 g1 g2 g3
              generalize w9.heap.size = gs at *
              have HCA : Hid (∀ w', Ext W9 w' → w'.rowIs gw 35 3 (b3 (.slice Aw G.nc kw) (.slice Bw G.no lw) (.bool (o1 || o2))) ∧ w'.rowIs gf 35 3 (b3 (.slice Af G.nc kf) (.slice Bf G.no lf) (.bool o1)) ∧ w'.rowIs gs 35 3 (b3 (.slice As G.nc ks) (.slice Bs G.no ls) (.bool o2))) := fun w' e =>
                ⟨HQ1.out.ext (HX8.out.trans (HX9.out.trans e)), HQ2.out.ext (HX9.out.trans e), HQ3.out.ext e⟩
              have HI1 : Hid (∀ w', Ext W9 w' → Calls Try.prog 19 #[.slice Aw G.nc kw, .slice As G.nc ks] w' fun e w'' => e = .returned (.bool true) ∧ Ext w' w'') := fun w' e => ints_true (by omega) (HRW1.out.ext (HX8.out.trans (HX9.out.trans e))) (HS1.out.ext e)
              have HI2 : Hid (∀ w', Ext W9 w' → Calls Try.prog 19 #[.slice Bw G.no lw, .slice Bs G.no ls] w' fun e w'' => e = .returned (.bool true) ∧ Ext w' w'') := fun w' e => ints_true (by omega) (HRW2.out.ext (HX8.out.trans (HX9.out.trans e))) (HS2.out.ext e)
              have hy := Ext.refl W9
              have a0 : W9.cell? ⟨gw, 0, none⟩ = some (.slice Aw G.nc kw) := (HCA.out _ hy).1.cell (by omega)
              have d0 : W9.cell? ⟨gs, 0, none⟩ = some (.slice As G.nc ks) := (HCA.out _ hy).2.2.cell (by omega)
              cases o1
              all_goals
                cases o2
                all_goals
                  go_wp2_with (go_at_call 19; (first | (with_reducible refine (HI1.out _ hy).mono ?_) | (with_reducible refine (HI2.out _ hy).mono ?_)); rintro e1 w1 ⟨rfl, hb1⟩; replace hy := hy.trans hb1; clear hb1; (try clear a0 d0); (try clear a1 a2 b2' d1 d2); have a1 : w1.cell? ⟨gw, 1, none⟩ = some (.slice Bw G.no lw) := (HCA.out _ hy).1.cell (by omega); have d1 : w1.cell? ⟨gs, 1, none⟩ = some (.slice Bs G.no ls) := (HCA.out _ hy).2.2.cell (by omega); have a2 : w1.cell? ⟨gw, 2, none⟩ = some (.bool _) := (HCA.out _ hy).1.cell (by omega); have b2' : w1.cell? ⟨gf, 2, none⟩ = some (.bool _) := (HCA.out _ hy).2.1.cell (by omega); have d2 : w1.cell? ⟨gs, 2, none⟩ = some (.bool _) := (HCA.out _ hy).2.2.cell (by omega))
                  go_ret
                  exact ⟨rfl, HE4.out.trans (HCU.out.1.trans (HX6.out.trans (HX8.out.trans (HX9.out.trans hy))))⟩
        · have hc' : (chP G != 0) = true := by simpa using hc
          generalize chP G = ec at *
          go_wp2_with (first | (go_at_call 10; (with_reducible refine (HW.out _).mono ?_); rintro e1 w1 ⟨rfl, hb1⟩; replace hx := hx.trans hb1; clear hb1; clear p0 p1 p2 p3 l0 l1; obtain ⟨p0, p1, p2, p3⟩ := HC.out _ hx; have l0 : w1.cell? ⟨W.heap.size + 1, 0, none⟩ = some (.slice A n c) := (HX.out.ext hx).cell (by omega); have l1 : w1.cell? ⟨W.heap.size + 1, 1, none⟩ = some (.slice B m e) := (HX.out.ext hx).cell (by omega)) | (go_at_call 11; (with_reducible refine (HLI.out _ (HE.out.trans hx)).mono ?_); rintro e1 w1 ⟨rfl, hb1⟩; replace hx := hx.trans hb1; clear hb1; clear p0 p1 p2 p3 l0 l1; obtain ⟨p0, p1, p2, p3⟩ := HC.out _ hx; have l0 : w1.cell? ⟨W.heap.size + 1, 0, none⟩ = some (.slice A n c) := (HX.out.ext hx).cell (by omega); have l1 : w1.cell? ⟨W.heap.size + 1, 1, none⟩ = some (.slice B m e) := (HX.out.ext hx).cell (by omega)) | (go_at_call 12; (with_reducible refine (HCK.out _ (HE.out.trans hx)).mono ?_); rintro e1 w1 ⟨rfl, hb1⟩; replace hx := hx.trans hb1; clear hb1; clear p0 p1 p2 p3 l0 l1; obtain ⟨p0, p1, p2, p3⟩ := HC.out _ hx; have l0 : w1.cell? ⟨W.heap.size + 1, 0, none⟩ = some (.slice A n c) := (HX.out.ext hx).cell (by omega); have l1 : w1.cell? ⟨W.heap.size + 1, 1, none⟩ = some (.slice B m e) := (HX.out.ext hx).cell (by omega)))
          go_ret
          exact ⟨rfl, HE.out.trans hx⟩
end Go.Proofs.Ytommlhdiefoocaa
