/- Programs of diagrams: what the laws begin with. -/
import Derived.Test.YtkocmdpfknoiaaaGreatDoorKxl
import Derived.Test.YtkocmdpfknoiaaaGreatDoorFlt
namespace Go.Proofs.YtkocmdpfknoiaaaGreatDoor
open Go Go.RowKit

theorem newc (w : World) (cs : Array Value) (t : TypeId) {g j : Nat} {v : Value} (hg : g = w.heap.size) (h : cs[j]? = some v) : (w.alloc (.cells cs t)).cell? ⟨g, j, none⟩ = some v := by
  subst hg
  have hj : j < cs.size := (Array.getElem?_eq_some_iff.1 h).1
  have := (World.rowIs_alloc w cs t (fun i => cs.getD i (I 0)) (fun i hi => by simp [Array.getD, hi])).cell hj
  rw [this]; congr 1; simp [Array.getD_eq_getD_getElem?, h]
theorem ri_newc {w : World} {cs : Array Value} {t : TypeId} {g n : Nat} {f : Nat → Int} (hg : g = w.heap.size) (h : ∀ i, i < n → cs[i]? = some (I (f i))) : Ri (w.alloc (.cells cs t)) (some ⟨g, 0, none⟩) n f := fun _ =>
  ⟨g, 0, rfl, by rw [hg]; simp, fun i hi => by rw [Nat.zero_add]; exact newc _ _ _ hg (h i hi)⟩

def fFl : Nat → Int := fun _ => 4
theorem fl_ri4 (w : World) : Ri (w.alloc (.cells #[I 4, I 4, I 4, I 4] 3)) (some ⟨w.heap.size, 0, none⟩) 4 fFl :=
  ri_newc rfl (fun i hi => by rcases (show i = 0 ∨ i = 1 ∨ i = 2 ∨ i = 3 by omega) with h | h | h | h <;> subst h <;> rfl)
theorem flx_cm : cmE flD 4 fFl = 0 := by kernel_rfl
theorem flx_ni : cdN flD fFl = 5 := by kernel_rfl
theorem flx_nc : flD.nb + ndl flD + 2 * ncl flD = 5 := by kernel_rfl
theorem flx_x4 : cdX flD fFl 4 = ⟨2, 3, 4, 0, 0, 0, 0⟩ := by kernel_rfl
theorem flx_raw : rawE (-3) (-1) 0 = 0 ∧ rawN (-3) (-1) 0 = -2 := ⟨by kernel_rfl, by kernel_rfl⟩
set_option maxRecDepth 100000 in
set_option maxHeartbeats 1000000 in
theorem kxAwake_any (w : World) (hT : Tabs w) (hO : TabO w) : Calls Tryz.prog 7 #[] w fun e w' => e = .returned (.bool true) ∧ Ext w w' := by
  have HCM : Hid (∀ w1 w2 g, FlM w w1 → Ext w1 w2 → Ri w2 (some ⟨g, 0, none⟩) 4 fFl → Calls Tryz.prog 9 #[flV w, .slice (some ⟨g, 0, none⟩) 4 4] w2 (fun e w' => ∃ AP cP AC cC bX oX cX AO cO, e = .returned (.tuple #[.agg #[.slice AP 1 cP, .slice AC 5 cC, .slice (some ⟨bX, oX, none⟩) 5 cX, .slice AO 1 cO], .nilIface]) ∧ Rx w' (some ⟨bX, oX, none⟩) 5 (cdX flD fFl) ∧ Ext w2 w')) := fun w1 w2 g h x r => by
    have := (Compile_any (cf := 4) (h.on x).dm (hT.ext (h.ext.trans x)) (hO.ext (h.ext.trans x)) r (by unfold maxLen; omega)).1 flx_cm
    refine Calls.mono this fun e w' ⟨pp, h1, h2, _, h3⟩ => ?_
    have hx := h2.code
    have e1 : (prD flD fFl).ni = 5 := flx_ni
    rw [e1] at hx
    obtain ⟨b, o, hA, _⟩ := hx (by omega)
    rw [hA] at hx
    refine ⟨pp.AP, pp.cP, pp.AC, pp.cC, b, o, pp.cX, pp.AO, pp.cO, ?_, hx, h3⟩
    rw [h1, ← hA]
    show Ending.returned (.tuple #[.agg #[.slice pp.AP 1 pp.cP, .slice pp.AC (flD.nb + ndl flD + 2 * ncl flD) pp.cC, .slice pp.AX (cdN flD fFl) pp.cX, .slice pp.AO 1 pp.cO], .nilIface]) = _
    rw [flx_nc, flx_ni]
  have HRW : Hid (∀ w', Calls Tryz.prog 34 #[.agg #[I (-3), I (-1)], I 0] w' fun e w'' => e = .returned (.tuple #[I (-2), .nilIface]) ∧ Ext w' w'') := fun w' => (Raw_any (-3) (-1) 0 w').mono fun e w'' h => by
    have := h.1
    rw [flx_raw.1, flx_raw.2] at this
    exact ⟨this, h.2⟩
  clear hT hO
  go_enter Tryz.func7, Tryz.ntmps7
  go_upto_region 3 with (first
    | (go_at_call 33; (with_reducible refine (filter_any _).mono ?_); rintro e1 w1 ⟨rfl, m1⟩; have M1 := Lib.hid m1; clear m1)
    | (go_at_call 9; (with_reducible refine (HCM.out w1 _ _ M1.out (Ext.alloc _ _) (fl_ri4 _)).mono ?_); rintro e2 w2 ⟨AP, cP, AC, cC, bX, oX, cX, AO, cO, rfl, hx, x2⟩; have HX := Lib.hid hx; have X2 := Lib.hid (M1.out.ext.trans ((Ext.alloc _ _).trans x2)); clear hx x2)
    | (go_at_call 34; (with_reducible refine (HRW.out _).mono ?_); rintro e3 w3 ⟨rfl, h3⟩; have X3 := Lib.hid h3; clear h3))
  obtain ⟨b, o, e, hlt, hc⟩ := HX.out (by omega)
  injection e with e; injection e with e1 e2
  subst e1; subst e2
  obtain ⟨y0, y1, y2, y3, y4, y5, y6⟩ := hc 4 (by omega)
  rw [flx_x4] at y0 y1 y2 y3 y4 y5 y6
  have e23 : Ext w2 w3 := (Ext.alloc _ _).trans X3.out
  have q1 : w3.cell? ⟨w2.heap.size, 1, none⟩ = some (.slice AC 5 cC) := (X3.out.old.1 _ _ (by simp)).trans (newc _ _ _ rfl rfl)
  have q2 : w3.cell? ⟨w2.heap.size, 2, none⟩ = some (.slice (some ⟨bX, oX, none⟩) 5 cX) := (X3.out.old.1 _ _ (by simp)).trans (newc _ _ _ rfl rfl)
  rw [show oX + 4 * 7 = oX + 28 by omega] at y0 y1 y2 y3 y4 y5 y6
  replace y0 := (e23.old.1 _ _ hlt).trans y0; replace y1 := (e23.old.1 _ _ hlt).trans y1; replace y2 := (e23.old.1 _ _ hlt).trans y2; replace y3 := (e23.old.1 _ _ hlt).trans y3
  replace y4 := (e23.old.1 _ _ hlt).trans y4; replace y5 := (e23.old.1 _ _ hlt).trans y5; replace y6 := (e23.old.1 _ _ hlt).trans y6
  clear hc
  go_wp2_with fail
  go_ret
  exact ⟨rfl, X2.out.trans e23⟩
end Go.Proofs.YtkocmdpfknoiaaaGreatDoor
