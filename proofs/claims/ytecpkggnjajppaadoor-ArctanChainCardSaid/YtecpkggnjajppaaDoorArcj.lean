/- The law ArctanChain. -/
import Derived.Test.YtecpkggnjajppaaDoorArci
namespace Go.Proofs.YtecpkggnjajppaaDoor
open Go.RowKit

theorem three_boxes_at {w w1 : World} {x y u v a b : Int} {t : TypeId} (h : Ext (((w.alloc (.cells #[I x, I y] t)).alloc (.cells #[I u, I v] t)).alloc (.cells #[I a, I b] t)) w1) : Ext w w1 ∧ w.heap.size + 1 + 1 < w1.heap.size ∧ w.heap.size + 1 < w1.heap.size ∧ w.heap.size < w1.heap.size ∧
    w1.cell? ⟨w.heap.size, 0, none⟩ = some (I x) ∧ w1.cell? ⟨w.heap.size, 1, none⟩ = some (I y) ∧ w1.cell? ⟨w.heap.size + 1, 0, none⟩ = some (I u) ∧ w1.cell? ⟨w.heap.size + 1, 1, none⟩ = some (I v) ∧ w1.cell? ⟨w.heap.size + 1 + 1, 0, none⟩ = some (I a) ∧ w1.cell? ⟨w.heap.size + 1 + 1, 1, none⟩ = some (I b) := by
  have hs := h.size
  simp at hs
  have ho := h.old.1
  refine ⟨((Ext.alloc _ _).trans ((Ext.alloc _ _).trans (Ext.alloc _ _))).trans h, by omega, by omega, by omega, ?_, ?_, ?_, ?_, ?_, ?_⟩
  all_goals (rw [ho _ _ (by simp; try omega)]; go_simp)

set_option maxRecDepth 100000 in
set_option maxHeartbeats 1000000 in
theorem chain_of (x y u v a b n m z : Int) (w : World) (hT : TabS w) (hx : In63 x) (hy : In63 y) (hu : In63 u) (hv : In63 v) (ha : In63 a) (hb : In63 b) (h1 : cmpd x y u v = n) (h2 : cmpd u v a b = m) (h3 : cmpd x y a b = z)
    (k1 : 0 < n ∨ 0 < m ∨ z ≤ 0) (k2 : n < 0 ∨ m < 0 ∨ 0 ≤ z) (k3 : n ≠ 0 ∨ m = z) :
    Calls Tryd.prog 9 #[.agg #[I x, I y], .agg #[I u, I v], .agg #[I a, I b]] w fun e w' => e = .returned (.bool true) ∧ Ext w w' := by
  have HT := Lib.hid hT; clear hT
  have C1 := Lib.hid (cmp_val x y u v _ hx hy hu hv h1)
  have C2 := Lib.hid (cmp_val u v a b _ hu hv ha hb h2)
  have C3 := Lib.hid (cmp_val x y a b _ hx hy ha hb h3)
  have K1 := Lib.hid k1
  have K2 := Lib.hid k2
  have K3 := Lib.hid k3
  clear h1 h2 h3 hx hy hu hv ha hb k1 k2 k3
  go_enter Tryd.func9, Tryd.ntmps9
  go_wp2_with (first | (go_at_call 12; refine (awake_any _ (HT.out.ext ((Ext.alloc _ _).trans ((Ext.alloc _ _).trans (Ext.alloc _ _))))).mono ?_; rintro e w1 ⟨rfl, hb1⟩; (first | replace hb := Ext.trans hb hb1 | replace hb := Ext.trans (Ext.trans hb (Ext.drewN _ _)) hb1 | replace hb := Ext.trans (Ext.trans hb (Ext.alloc _ _)) hb1 | have hb := hb1); clear hb1; obtain ⟨hc1, hf1⟩ := hb.old))
  clear hc1 hf1
  obtain ⟨HF, z1, z2, z3, c0, c1, c2, c3, c4, c5⟩ := three_boxes_at hb
  clear hb
  replace HT := Lib.hid (HT.out.ext HF)
  replace HF := Lib.hid HF
  have hb := Ext.refl w1
  have hL := fun (x : Later _) => (Ext.trans hb x.ext).old.1
  refine wp_region_later (by kernel_rfl) (by kernel_rfl) ?_
  repeat (go_big_quiet_step ((go_at_call 17; (first | (with_reducible exact Calls.later (C1.out _)) | (with_reducible exact Calls.later (C2.out _)) | (with_reducible exact Calls.later (C3.out _))))))
  refine wpQuiet_nil ?_
  intro w2 hw2
  replace hb := Ext.trans hb (Later.of hw2)
  clear hw2 hL
  obtain ⟨hc, hf⟩ := hb.old
  clear C1 C2 C3
  go_wp2_with fail
  all_goals
    have k1 := K1.out
    have k2 := K2.out
    have k3 := K3.out
    first
      | (exfalso; omega)
      | (go_ret; exact ⟨by first | rfl | (simp; omega) | (simp; intros; omega), HF.out.trans hb⟩)
      | (exfalso; simp_all; done)
      | (exfalso; simp_all; omega)
      | trace_state
theorem chain_law' (x y u v a b : Int) (w : World) (hT : TabS w) (hx : In63 x) (hy : In63 y) (hu : In63 u) (hv : In63 v) (ha : In63 a) (hb : In63 b) : Calls Tryd.prog 9 #[.agg #[I x, I y], .agg #[I u, I v], .agg #[I a, I b]] w fun e w' => e = .returned (.bool true) ∧ Ext w w' := by
  obtain ⟨k1, k2, k3⟩ := chain_law x y u v a b
  exact chain_of x y u v a b _ _ _ w hT hx hy hu hv ha hb rfl rfl rfl k1 k2 k3
end Go.Proofs.YtecpkggnjajppaaDoor
