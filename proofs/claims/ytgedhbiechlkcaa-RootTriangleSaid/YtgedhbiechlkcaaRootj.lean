/- The law RootTriangle. -/
import Derived.Test.YtgedhbiechlkcaaRootg
import Derived.Deep.RegionWith
namespace Go.Proofs.Ytgedhbiechlkcaa
open Go.RowKit

set_option maxHeartbeats 400000 in
theorem clip_same (n lo hi : Int) (h : lo ≤ hi) (w : World) : Calls Try.prog 27 #[I n, I lo, I hi] w fun e w' => e = .returned (I (clp n lo hi)) ∧ w' = w := by
  by_cases h1 : n < hi
  · by_cases h2 : lo < n
    · have H := Lib.hid (clp_min h1 h2)
      go_enter Try.func27, Try.ntmps27
      go_wp2
      all_goals (go_ret; exact ⟨by rw [H.out]; exact ret_int (by omega), rfl⟩)
    · have H := Lib.hid (clp_lo h1 h2)
      go_enter Try.func27, Try.ntmps27
      go_wp2
      all_goals (go_ret; exact ⟨by rw [H.out]; exact ret_int (by omega), rfl⟩)
  · by_cases h2 : lo < hi
    · have H := Lib.hid (clp_hi h1 h2)
      go_enter Try.func27, Try.ntmps27
      go_wp2
      all_goals (go_ret; exact ⟨by rw [H.out]; exact ret_int (by omega), rfl⟩)
    · have H := Lib.hid (clp_pt h h1 h2)
      go_enter Try.func27, Try.ntmps27
      go_wp2
      all_goals (go_ret; exact ⟨by rw [H.out]; exact ret_int (by omega), rfl⟩)

/-- Two boxes of two numbers, behind all old memory. -/
structure Bx (w wr : World) (p q r s : Int) : Prop where
  ext : Ext w wr
  siz : w.heap.size + 1 < wr.heap.size
  c0 : wr.cell? ⟨w.heap.size, 0, none⟩ = some (I p)
  c1 : wr.cell? ⟨w.heap.size, 1, none⟩ = some (I q)
  d0 : wr.cell? ⟨w.heap.size + 1, 0, none⟩ = some (I r)
  d1 : wr.cell? ⟨w.heap.size + 1, 1, none⟩ = some (I s)
  f0 : wr.frozen? ⟨w.heap.size, 0, none⟩ = false
  f1 : wr.frozen? ⟨w.heap.size, 1, none⟩ = false
  g0 : wr.frozen? ⟨w.heap.size + 1, 0, none⟩ = false
  g1 : wr.frozen? ⟨w.heap.size + 1, 1, none⟩ = false
theorem bx_start (w : World) (p q r s : Int) (t : TypeId) : Bx w ((w.alloc (.cells #[I p, I q] t)).alloc (.cells #[I r, I s] t)) p q r s :=
  ⟨(Ext.alloc _ _).trans (Ext.alloc _ _), by simp, by go_simp, by go_simp, by go_simp, by go_simp, by go_simp, by go_simp, by go_simp, by go_simp⟩
theorem Bx.later {w wr w' : World} {p q r s : Int} (h : Bx w wr p q r s) (k : Ext wr w') : Bx w w' p q r s := by
  have hs := k.size
  obtain ⟨o, z⟩ := k.old
  have a := h.siz
  have a' : w.heap.size < wr.heap.size := by omega
  exact ⟨h.ext.trans k, by omega, (o _ _ a').trans h.c0, (o _ _ a').trans h.c1, (o _ _ a).trans h.d0, (o _ _ a).trans h.d1, (z _ _ a').trans h.f0, (z _ _ a').trans h.f1, (z _ _ a).trans h.g0, (z _ _ a).trans h.g1⟩

theorem okS_28 {n : Int} (h : -268435456 ≤ n ∧ n ≤ 268435456) : okS n := by unfold okS; omega
set_option maxRecDepth 100000 in
set_option maxHeartbeats 1000000 in
theorem triangle_law (a0 a1 b0 b1 : Int) (w : World) : Calls Try.prog 10 #[.agg #[I a0, I a1], .agg #[I b0, I b1]] w fun e w' => e = .returned (.bool true) ∧ Ext w w' := by
  have k0 := clp_bd a0 (lo := -268435456) (hi := 268435456) (by omega)
  have k1 := clp_bd a1 (lo := -268435456) (hi := 268435456) (by omega)
  have l0 := clp_bd b0 (lo := -268435456) (hi := 268435456) (by omega)
  have l1 := clp_bd b1 (lo := -268435456) (hi := 268435456) (by omega)
  have HA := Lib.hid (clip_same a0 (-268435456) 268435456 (by omega))
  have HB := Lib.hid (clip_same a1 (-268435456) 268435456 (by omega))
  have HC := Lib.hid (clip_same b0 (-268435456) 268435456 (by omega))
  have HD := Lib.hid (clip_same b1 (-268435456) 268435456 (by omega))
  generalize clp a0 (-268435456) 268435456 = p at *
  generalize clp a1 (-268435456) 268435456 = q at *
  generalize clp b0 (-268435456) 268435456 = r at *
  generalize clp b1 (-268435456) 268435456 = s at *
  have n1 := sq_bd (okS_28 k0)
  have n2 := sq_bd (okS_28 k1)
  have n3 := sq_bd (okS_28 l0)
  have n4 := sq_bd (okS_28 l1)
  have n5 : okS (p + r) := by unfold okS; omega
  have n6 : okS (q + s) := by unfold okS; omega
  have n7 := sq_bd n5
  have n8 := sq_bd n6
  have HU := Lib.hid (fun w => abv_is (abv_ok ⟨okS_28 k0, okS_28 k1⟩) w)
  have HV := Lib.hid (fun w => abv_is (abv_ok ⟨okS_28 l0, okS_28 l1⟩) w)
  have HW := Lib.hid (fun w => len_is (len_ok ⟨n5, n6⟩) w)
  have HT : Hid (rt ((p + r) * (p + r) + (q + s) * (q + s)) ≤ up (p * p + q * q) + up (r * r + s * s)) := by
    obtain ⟨x0, x1, _⟩ := up_sp (n := p * p + q * q) (by omega) (by omega)
    obtain ⟨y0, y1, _⟩ := up_sp (n := r * r + s * s) (by omega) (by omega)
    obtain ⟨z0, z1, _⟩ := rt_sp (n := (p + r) * (p + r) + (q + s) * (q + s)) (by omega) (by omega)
    exact triangle x0 y0 x1 y1 z1
  obtain ⟨x0, x1⟩ := up_bd (n := p * p + q * q) (by omega)
  obtain ⟨y0, y1⟩ := up_bd (n := r * r + s * s) (by omega)
  rw [errv0] at HU HV HW
  generalize up (p * p + q * q) = x at *
  generalize up (r * r + s * s) = y at *
  generalize rt ((p + r) * (p + r) + (q + s) * (q + s)) = z at *
  have hT := HT.out
  clear n1 n2 n3 n4 n5 n6 n7 n8 HT
  have HK := Lib.hid (show (-268435456 ≤ p ∧ p ≤ 268435456) ∧ (-268435456 ≤ q ∧ q ≤ 268435456) ∧ (-268435456 ≤ r ∧ r ≤ 268435456) ∧ (-268435456 ≤ s ∧ s ≤ 268435456) from ⟨k0, k1, l0, l1⟩)
  clear k0 k1 l0 l1
  go_enter Try.func10, Try.ntmps10
  go_wp2_with fail
  have hx := bx_start w a0 a1 b0 b1 45
  generalize (w.alloc (.cells #[I a0, I a1] 45)).alloc (.cells #[I b0, I b1] 45) = w0 at *
  have HX := Lib.hid hx; clear hx
  go_wp2_with (first | (go_at_call 11; refine (awake_any _).mono ?_; rintro e w1 ⟨rfl, hb1⟩; (first | replace hb := Ext.trans hb hb1 | replace hb := Ext.trans (Ext.trans hb (Ext.drewN _ _)) hb1 | replace hb := Ext.trans (Ext.trans hb (Ext.alloc _ _)) hb1 | have hb := hb1); clear hb1; obtain ⟨hc1, hf1⟩ := hb.old))
  have hx := HX.out.later hb
  clear HX hb hc1 hf1
  go_loopw [14] (fun c wr => (c = I 0 ∧ Bx w wr a0 a1 b0 b1) ∨ (c = I 1 ∧ Bx w wr p a1 r b1) ∨ (c = I 2 ∧ Bx w wr p q r s)) (fun c _ => 2 - (intOf c).toNat)
  case atStart => exact .inl ⟨rfl, hx⟩
  case round =>
    clear hx
    rcases hrel with ⟨rfl, hx⟩ | ⟨rfl, hx⟩ | ⟨rfl, hx⟩
    · obtain ⟨he, hz, c0, c1, d0, d1, f0, f1, g0, g1⟩ := hx
      have HE := Lib.hid he; clear he
      have hz0 : w.heap.size < wr.heap.size := by omega
      go_wp2_with fail
      go_region_with (go_at_call 27; (first | (with_reducible refine (HA.out _).mono ?_) | (with_reducible refine (HC.out _).mono ?_)); rintro e w2 ⟨rfl, rfl⟩)
      all_goals
        go_wp2_with fail
        go_roundw
        case rel =>
          refine .inr (.inl ⟨rfl, ?_⟩)
          refine ⟨Ext.set (Ext.set (HE.out.trans (Ext.drew _)) (by simp) _) (by simp) _, by simp; omega, by go_simp, by go_simp, by go_simp, by go_simp, by go_simp, by go_simp, by go_simp, by go_simp⟩
        case measure => simp [intOf]
    · obtain ⟨he, hz, c0, c1, d0, d1, f0, f1, g0, g1⟩ := hx
      have HE := Lib.hid he; clear he
      have hz0 : w.heap.size < wr.heap.size := by omega
      go_wp2_with fail
      go_region_with (go_at_call 27; (first | (with_reducible refine (HB.out _).mono ?_) | (with_reducible refine (HD.out _).mono ?_)); rintro e w2 ⟨rfl, rfl⟩)
      all_goals
        go_wp2_with fail
        go_roundw
        case rel =>
          refine .inr (.inr ⟨rfl, ?_⟩)
          refine ⟨Ext.set (Ext.set (HE.out.trans (Ext.drew _)) (by simp) _) (by simp) _, by simp; omega, by go_simp, by go_simp, by go_simp, by go_simp, by go_simp, by go_simp, by go_simp, by go_simp⟩
        case measure => simp [intOf]
    · obtain ⟨he, hz, c0, c1, d0, d1, f0, f1, g0, g1⟩ := hx
      have HE := Lib.hid he; clear he f0 f1 g0 g1
      have hz0 : w.heap.size < wr.heap.size := by omega
      obtain ⟨⟨k0, k0'⟩, ⟨k1, k1'⟩, ⟨l0, l0'⟩, l1, l1'⟩ := HK.out
      have hb := Ext.refl wr
      go_wp2_with (first
        | (go_at_call 17; (first | (with_reducible refine (HU.out _).mono ?_) | (with_reducible refine (HV.out _).mono ?_)); rintro e w1 ⟨rfl, hb1⟩; replace hb := Ext.trans hb hb1; clear hb1; obtain ⟨hc1, hf1⟩ := hb.old)
        | (go_at_call 16; refine (HW.out _).mono ?_; rintro e w1 ⟨rfl, hb1⟩; (first | replace hb := Ext.trans hb hb1 | replace hb := Ext.trans (Ext.trans hb (Ext.drewN _ _)) hb1 | replace hb := Ext.trans (Ext.trans hb (Ext.alloc _ _)) hb1 | have hb := hb1); clear hb1; obtain ⟨hc1, hf1⟩ := hb.old))
      all_goals (go_ret; exact ⟨by simp, HE.out.trans hb⟩)
end Go.Proofs.Ytgedhbiechlkcaa
