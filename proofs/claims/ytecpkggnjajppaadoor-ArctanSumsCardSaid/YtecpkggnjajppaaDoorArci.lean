/- The laws of package arctan: what they call. -/
import Derived.Test.YtecpkggnjajppaaDoorArcg
import Derived.Test.YtecpkggnjajppaaDoorArch
namespace Go.Proofs.YtecpkggnjajppaaDoor
open Go.RowKit

/-- n, moved into its limits. -/
def clp (n lo hi : Int) : Int := if n < lo then lo else if hi < n then hi else n
theorem clp_lo {n lo hi : Int} (h : n < lo) : clp n lo hi = lo := by unfold clp; rw [if_pos h]
theorem clp_hi {n lo hi : Int} (h : ¬ n < lo) (h' : hi < n) : clp n lo hi = hi := by unfold clp; rw [if_neg h, if_pos h']
theorem clp_in {n lo hi : Int} (h : ¬ n < lo) (h' : ¬ hi < n) : clp n lo hi = n := by unfold clp; rw [if_neg h, if_neg h']
theorem clp_bd (n lo hi : Int) (h : lo ≤ hi) : lo ≤ clp n lo hi ∧ clp n lo hi ≤ hi := by unfold clp; split <;> (try split) <;> omega

set_option maxHeartbeats 400000 in
theorem clip_any (n lo hi : Int) (w : World) (hl : lo < hi) : Calls Tryd.prog 21 #[I n, I lo, I hi] w fun e w' => e = .returned (I (clp n lo hi)) ∧ Ext w w' := by
  by_cases h1 : n < lo
  · have H := Lib.hid (clp_lo (hi := hi) h1)
    have h2 : n < hi := by omega
    go_enter Tryd.func21, Tryd.ntmps21
    go_wp2
    go_ret
    exact ⟨by rw [H.out]; first | rfl | omega, Ext.refl _⟩
  · by_cases h2 : hi < n
    · have H := Lib.hid (clp_hi h1 h2)
      have h3 : ¬ n < hi := by omega
      have h4 : lo < hi := hl
      go_enter Tryd.func21, Tryd.ntmps21
      go_wp2
      go_ret
      exact ⟨by rw [H.out]; first | rfl | omega, Ext.refl _⟩
    · have H := Lib.hid (clp_in h1 h2)
      by_cases h3 : n < hi
      · by_cases h4 : lo < n
        · go_enter Tryd.func21, Tryd.ntmps21
          go_wp2
          go_ret
          exact ⟨by rw [H.out]; first | rfl | omega, Ext.refl _⟩
        · obtain rfl : n = lo := by omega
          go_enter Tryd.func21, Tryd.ntmps21
          go_wp2
          go_ret
          exact ⟨by rw [H.out]; first | rfl | omega, Ext.refl _⟩
      · obtain rfl : n = hi := by omega
        have h4 : lo < n := hl
        go_enter Tryd.func21, Tryd.ntmps21
        go_wp2
        go_ret
        exact ⟨by rw [H.out]; first | rfl | omega, Ext.refl _⟩

theorem ang_val (x y v : Int) (hx : In63 x) (hy : In63 y) (h : ang x y = v) (w : World) (hT : TabS w) : Calls Tryd.prog 13 #[I x, I y] w fun e w' => e = .returned (I v) ∧ Ext w w' := by
  subst h; exact ang_any x y w hT hx hy
theorem rang_val (x y v : Int) (hx : In63 x) (hy : In63 y) (h : ang x y = v) (w : World) : Calls Tryd.prog 14 #[I x, I y] w fun e w' => e = .returned (I v) ∧ Ext w w' := by
  subst h; exact rang_any x y w hx hy
theorem turn_val (x y u v z : Int) (hx : In63 x) (hy : In63 y) (hu : In63 u) (hv : In63 v) (h : dff (ang x y) (ang u v) = z) (w : World) (hT : TabS w) : Calls Tryd.prog 15 #[I x, I y, I u, I v] w fun e w' => e = .returned (I z) ∧ Ext w w' := by
  subst h; exact turn_any x y u v w hT hx hy hu hv
theorem rturn_val (x y u v z : Int) (hx : In63 x) (hy : In63 y) (hu : In63 u) (hv : In63 v) (h : dff (ang x y) (ang u v) = z) (w : World) : Calls Tryd.prog 16 #[I x, I y, I u, I v] w fun e w' => e = .returned (I z) ∧ Ext w w' := by
  subst h; exact rturn_any x y u v w hx hy hu hv
theorem cmp_val (x y u v z : Int) (hx : In63 x) (hy : In63 y) (hu : In63 u) (hv : In63 v) (h : cmpd x y u v = z) (w : World) : Calls Tryd.prog 17 #[I x, I y, I u, I v] w fun e w' => e = .returned (I z) ∧ Ext w w' := by
  subst h; exact compare_any x y u v w hx hy hu hv
theorem rcmp_val (x y u v z : Int) (hx : In63 x) (hy : In63 y) (hu : In63 u) (hv : In63 v) (h : cmpd x y u v = z) (w : World) : Calls Tryd.prog 18 #[I x, I y, I u, I v] w fun e w' => e = .returned (I z) ∧ Ext w w' := by
  subst h; exact rcompare_any x y u v w hx hy hu hv
theorem ang_ex {x y k : Int} (hb : ¬ big x y) (A : 0 ≤ crs k x y) (B : crs (k + 1) x y < 0) (h0 : 0 ≤ k) (h1 : k ≤ 65535) : ang x y = k := by
  rw [ang_is hb A B]; unfold nrm; omega
theorem in63 {x : Int} (h : -1099511627776 ≤ x ∧ x ≤ 1099511627776) : In63 x := by unfold In63; omega
theorem awk1 : ang 1 1 = 8192 := ang_ex (by decide) (by decide +kernel) (by decide +kernel) (by omega) (by omega)
theorem awk2 : ang 0 5 = 16384 := ang_ex (by decide) (by decide +kernel) (by decide +kernel) (by omega) (by omega)
theorem awk3 : ang 1 (-1) = 57344 := ang_ex (by decide) (by decide +kernel) (by decide +kernel) (by omega) (by omega)
theorem awk4 : ang 32767 4 = 1 := ang_ex (by decide) (by decide +kernel) (by decide +kernel) (by omega) (by omega)
theorem awk5 : cmpd 1 2 2 1 = 1 := by decide +kernel

set_option maxRecDepth 100000 in
set_option maxHeartbeats 1000000 in
theorem awake_any (w : World) (hT : TabS w) : Calls Tryd.prog 12 #[] w fun e w' => e = .returned (.bool true) ∧ Ext w w' := by
  have HT := Lib.hid hT; clear hT
  have A1 := Lib.hid (ang_val 1 1 8192 (in63 (by omega)) (in63 (by omega)) awk1)
  have A2 := Lib.hid (ang_val 0 5 16384 (in63 (by omega)) (in63 (by omega)) awk2)
  have A3 := Lib.hid (ang_val 1 (-1) 57344 (in63 (by omega)) (in63 (by omega)) awk3)
  have A4 := Lib.hid (ang_val 32767 4 1 (in63 (by omega)) (in63 (by omega)) awk4)
  have A5 := Lib.hid (cmp_val 1 2 2 1 1 (in63 (by omega)) (in63 (by omega)) (in63 (by omega)) (in63 (by omega)) awk5)
  go_enter Tryd.func12, Tryd.ntmps12
  go_wp2_with (first
    | (go_at_call 13; (first | (with_reducible refine (A1.out _ HT.out).mono ?_) | (with_reducible refine (A2.out _ (HT.out.ext hb)).mono ?_) | (with_reducible refine (A3.out _ (HT.out.ext hb)).mono ?_) | (with_reducible refine (A4.out _ (HT.out.ext hb)).mono ?_)); rintro e w1 ⟨rfl, hb1⟩; (first | replace hb := Ext.trans hb hb1 | have hb := hb1); clear hb1)
    | (go_at_call 17; (with_reducible refine (A5.out _).mono ?_); rintro e w2 ⟨rfl, hb1⟩; replace hb := Ext.trans hb hb1; clear hb1))
  go_ret
  exact ⟨rfl, hb⟩

set_option maxRecDepth 100000 in
set_option maxHeartbeats 1000000 in
theorem angles_law (x y : Int) (w : World) (hT : TabS w) (hx : In63 x) (hy : In63 y) : Calls Tryd.prog 3 #[I x, I y] w fun e w' => e = .returned (.bool true) ∧ Ext w w' := by
  have HT := Lib.hid hT; clear hT
  have HA := Lib.hid (ang_val x y _ hx hy rfl)
  have HB := Lib.hid (rang_val x y _ hx hy rfl)
  generalize ang x y = a at *
  go_enter Tryd.func3, Tryd.ntmps3
  go_wp2_with (first
    | (go_at_call 12; refine (awake_any _ HT.out).mono ?_; rintro e w1 ⟨rfl, hb1⟩; (first | replace hb := Ext.trans hb hb1 | replace hb := Ext.trans (Ext.trans hb (Ext.drewN _ _)) hb1 | replace hb := Ext.trans (Ext.trans hb (Ext.alloc _ _)) hb1 | have hb := hb1); clear hb1; obtain ⟨hc1, hf1⟩ := hb.old)
    | (go_at_call 13; (with_reducible refine (HA.out _ (HT.out.ext hb)).mono ?_); rintro e w2 ⟨rfl, hb1⟩; replace hb := Ext.trans hb hb1; clear hb1)
    | (go_at_call 14; (with_reducible refine (HB.out _).mono ?_); rintro e w3 ⟨rfl, hb1⟩; replace hb := Ext.trans hb hb1; clear hb1))
  go_ret
  exact ⟨rfl, hb⟩

theorem two_boxes (w : World) (x y u v : Int) (t : TypeId) : Ext w ((w.alloc (.cells #[I x, I y] t)).alloc (.cells #[I u, I v] t)) ∧ w.heap.size + 1 < ((w.alloc (.cells #[I x, I y] t)).alloc (.cells #[I u, I v] t)).heap.size ∧
    ((w.alloc (.cells #[I x, I y] t)).alloc (.cells #[I u, I v] t)).cell? ⟨w.heap.size, 0, none⟩ = some (I x) ∧ ((w.alloc (.cells #[I x, I y] t)).alloc (.cells #[I u, I v] t)).cell? ⟨w.heap.size, 1, none⟩ = some (I y) ∧
    ((w.alloc (.cells #[I x, I y] t)).alloc (.cells #[I u, I v] t)).cell? ⟨w.heap.size + 1, 0, none⟩ = some (I u) ∧ ((w.alloc (.cells #[I x, I y] t)).alloc (.cells #[I u, I v] t)).cell? ⟨w.heap.size + 1, 1, none⟩ = some (I v) :=
  ⟨(Ext.alloc _ _).trans (Ext.alloc _ _), by simp, by go_simp, by go_simp, by go_simp, by go_simp⟩

set_option maxRecDepth 100000 in
set_option maxHeartbeats 1000000 in
theorem turns_law (x y u v : Int) (w : World) (hT : TabS w) (hx : In63 x) (hy : In63 y) (hu : In63 u) (hv : In63 v) : Calls Tryd.prog 4 #[.agg #[I x, I y], .agg #[I u, I v]] w fun e w' => e = .returned (.bool true) ∧ Ext w w' := by
  have HT := Lib.hid hT; clear hT
  have HA := Lib.hid (turn_val x y u v _ hx hy hu hv rfl)
  have HB := Lib.hid (rturn_val x y u v _ hx hy hu hv rfl)
  generalize dff (ang x y) (ang u v) = a at *
  go_enter Tryd.func4, Tryd.ntmps4
  go_wp2_with fail
  obtain ⟨HF, hz, c0, c1, c2, c3⟩ := two_boxes w x y u v 26
  generalize (w.alloc (.cells #[I x, I y] 26)).alloc (.cells #[I u, I v] 26) = w0 at *
  have HF := Lib.hid HF
  have hz' : w.heap.size < w0.heap.size := by omega
  replace HT := Lib.hid (HT.out.ext HF.out)
  have hb := Ext.refl w0
  have hL := fun (x : Later _) => (Ext.trans hb x.ext).old.1
  refine wp_region_later (by kernel_rfl) (by kernel_rfl) ?_
  repeat (go_big_quiet_step ((first | (go_at_call 12; exact Calls.later (awake_any _ (HT.out.ext (Later.ext _)))) | (go_at_call 15; exact Calls.later (HA.out _ (HT.out.ext (Later.ext _)))) | (go_at_call 16; exact Calls.later (HB.out _)))))
  refine wpQuiet_nil ?_
  intro w2 hw2
  replace hb := Ext.trans hb (Later.of hw2)
  clear hw2 hL
  obtain ⟨hc, hf⟩ := hb.old
  go_wp2
  go_ret
  exact ⟨rfl, HF.out.trans hb⟩

set_option maxRecDepth 100000 in
set_option maxHeartbeats 1000000 in
theorem compares_law (x y u v : Int) (w : World) (hT : TabS w) (hx : In63 x) (hy : In63 y) (hu : In63 u) (hv : In63 v) : Calls Tryd.prog 5 #[.agg #[I x, I y], .agg #[I u, I v]] w fun e w' => e = .returned (.bool true) ∧ Ext w w' := by
  have HT := Lib.hid hT; clear hT
  have HA := Lib.hid (cmp_val x y u v _ hx hy hu hv rfl)
  have HB := Lib.hid (rcmp_val x y u v _ hx hy hu hv rfl)
  generalize cmpd x y u v = a at *
  go_enter Tryd.func5, Tryd.ntmps5
  go_wp2_with fail
  obtain ⟨HF, hz, c0, c1, c2, c3⟩ := two_boxes w x y u v 26
  generalize (w.alloc (.cells #[I x, I y] 26)).alloc (.cells #[I u, I v] 26) = w0 at *
  have HF := Lib.hid HF
  have hz' : w.heap.size < w0.heap.size := by omega
  replace HT := Lib.hid (HT.out.ext HF.out)
  have hb := Ext.refl w0
  have hL := fun (x : Later _) => (Ext.trans hb x.ext).old.1
  refine wp_region_later (by kernel_rfl) (by kernel_rfl) ?_
  repeat (go_big_quiet_step ((first | (go_at_call 12; exact Calls.later (awake_any _ (HT.out.ext (Later.ext _)))) | (go_at_call 17; exact Calls.later (HA.out _)) | (go_at_call 18; exact Calls.later (HB.out _)))))
  refine wpQuiet_nil ?_
  intro w2 hw2
  replace hb := Ext.trans hb (Later.of hw2)
  clear hw2 hL
  obtain ⟨hc, hf⟩ := hb.old
  go_wp2
  go_ret
  exact ⟨rfl, HF.out.trans hb⟩

theorem two_boxes_at {w w1 : World} {x y u v : Int} {t : TypeId} (h : Ext ((w.alloc (.cells #[I x, I y] t)).alloc (.cells #[I u, I v] t)) w1) : Ext w w1 ∧ w.heap.size + 1 < w1.heap.size ∧ w.heap.size < w1.heap.size ∧
    w1.cell? ⟨w.heap.size, 0, none⟩ = some (I x) ∧ w1.cell? ⟨w.heap.size, 1, none⟩ = some (I y) ∧ w1.cell? ⟨w.heap.size + 1, 0, none⟩ = some (I u) ∧ w1.cell? ⟨w.heap.size + 1, 1, none⟩ = some (I v) := by
  obtain ⟨HF, hz, c0, c1, c2, c3⟩ := two_boxes w x y u v t
  have hs := h.size
  have ho := h.old.1
  exact ⟨HF.trans h, by omega, by omega, (ho _ _ (by omega)).trans c0, (ho _ _ (by omega)).trans c1, (ho _ _ hz).trans c2, (ho _ _ hz).trans c3⟩

set_option maxRecDepth 100000 in
set_option maxHeartbeats 1000000 in
theorem order_z (x y u v a b : Int) (w : World) (hT : TabS w) (hx : In63 x) (hy : In63 y) (hu : In63 u) (hv : In63 v) (h1 : cmpd x y u v = 0) (h2 : cmpd u v x y = 0) (h3 : ang x y = a) (h4 : ang u v = b) (h : a = b) :
    Calls Tryd.prog 8 #[.agg #[I x, I y], .agg #[I u, I v]] w fun e w' => e = .returned (.bool true) ∧ Ext w w' := by
  have HT := Lib.hid hT; clear hT
  have C1 := Lib.hid (cmp_val x y u v _ hx hy hu hv h1)
  have C2 := Lib.hid (cmp_val u v x y _ hu hv hx hy h2)
  have C3 := Lib.hid (cmp_val x y x y 0 hx hy hx hy (cmpd_refl x y))
  have A1 := Lib.hid (ang_val x y _ hx hy h3)
  have A2 := Lib.hid (ang_val u v _ hu hv h4)
  clear h1 h2 h3 h4 hx hy hu hv
  subst h
  go_enter Tryd.func8, Tryd.ntmps8
  go_wp2_with (first | (go_at_call 12; refine (awake_any _ (HT.out.ext ((Ext.alloc _ _).trans (Ext.alloc _ _)))).mono ?_; rintro e w1 ⟨rfl, hb1⟩; (first | replace hb := Ext.trans hb hb1 | replace hb := Ext.trans (Ext.trans hb (Ext.drewN _ _)) hb1 | replace hb := Ext.trans (Ext.trans hb (Ext.alloc _ _)) hb1 | have hb := hb1); clear hb1; obtain ⟨hc1, hf1⟩ := hb.old))
  clear hc1 hf1
  obtain ⟨HF, hz, hz', c0, c1, c2, c3⟩ := two_boxes_at hb
  clear hb
  replace HT := Lib.hid (HT.out.ext HF)
  replace HF := Lib.hid HF
  have hb := Ext.refl w1
  have hL := fun (x : Later _) => (Ext.trans hb x.ext).old.1
  refine wp_region_later (by kernel_rfl) (by kernel_rfl) ?_
  repeat (go_big_quiet_step ((go_at_call 17; (first | (with_reducible exact Calls.later (C1.out _)) | (with_reducible exact Calls.later (C2.out _))))))
  refine wpQuiet_nil ?_
  intro w2 hw2
  replace hb := Ext.trans hb (Later.of hw2)
  clear hw2 hL
  obtain ⟨hc, hf⟩ := hb.old
  go_wp2_with fail
  have hL := fun (x : Later _) => (Ext.trans hb x.ext).old.1
  refine wp_region_later (by kernel_rfl) (by kernel_rfl) ?_
  repeat (go_big_quiet_step ((go_at_call 13; (first | (with_reducible exact Calls.later (A1.out _ (HT.out.ext (Ext.trans hb (Later.ext _))))) | (with_reducible exact Calls.later (A2.out _ (HT.out.ext (Ext.trans hb (Later.ext _)))))))))
  refine wpQuiet_nil ?_
  intro w2 hw2
  replace hb := Ext.trans hb (Later.of hw2)
  clear hw2 hL
  obtain ⟨hc, hf⟩ := hb.old
  go_wp2_with (go_at_call 17; (with_reducible refine (C3.out _).mono ?_); rintro e w3 ⟨rfl, hb1⟩; replace hb := Ext.trans hb hb1; clear hb1)
  go_ret
  exact ⟨rfl, HF.out.trans hb⟩
set_option maxRecDepth 100000 in
set_option maxHeartbeats 1000000 in
theorem order_m (x y u v a b : Int) (w : World) (hT : TabS w) (hx : In63 x) (hy : In63 y) (hu : In63 u) (hv : In63 v) (h1 : cmpd x y u v = -1) (h2 : cmpd u v x y = 1) (h3 : ang x y = a) (h4 : ang u v = b) (h : a ≤ b) :
    Calls Tryd.prog 8 #[.agg #[I x, I y], .agg #[I u, I v]] w fun e w' => e = .returned (.bool true) ∧ Ext w w' := by
  have HT := Lib.hid hT; clear hT
  have C1 := Lib.hid (cmp_val x y u v _ hx hy hu hv h1)
  have C2 := Lib.hid (cmp_val u v x y _ hu hv hx hy h2)
  have C3 := Lib.hid (cmp_val x y x y 0 hx hy hx hy (cmpd_refl x y))
  have A1 := Lib.hid (ang_val x y _ hx hy h3)
  have A2 := Lib.hid (ang_val u v _ hu hv h4)
  clear h1 h2 h3 h4 hx hy hu hv
  go_enter Tryd.func8, Tryd.ntmps8
  go_wp2_with (first | (go_at_call 12; refine (awake_any _ (HT.out.ext ((Ext.alloc _ _).trans (Ext.alloc _ _)))).mono ?_; rintro e w1 ⟨rfl, hb1⟩; (first | replace hb := Ext.trans hb hb1 | replace hb := Ext.trans (Ext.trans hb (Ext.drewN _ _)) hb1 | replace hb := Ext.trans (Ext.trans hb (Ext.alloc _ _)) hb1 | have hb := hb1); clear hb1; obtain ⟨hc1, hf1⟩ := hb.old))
  clear hc1 hf1
  obtain ⟨HF, hz, hz', c0, c1, c2, c3⟩ := two_boxes_at hb
  clear hb
  replace HT := Lib.hid (HT.out.ext HF)
  replace HF := Lib.hid HF
  have hb := Ext.refl w1
  have hL := fun (x : Later _) => (Ext.trans hb x.ext).old.1
  refine wp_region_later (by kernel_rfl) (by kernel_rfl) ?_
  repeat (go_big_quiet_step ((go_at_call 17; (first | (with_reducible exact Calls.later (C1.out _)) | (with_reducible exact Calls.later (C2.out _))))))
  refine wpQuiet_nil ?_
  intro w2 hw2
  replace hb := Ext.trans hb (Later.of hw2)
  clear hw2 hL
  obtain ⟨hc, hf⟩ := hb.old
  go_wp2_with fail
  have hL := fun (x : Later _) => (Ext.trans hb x.ext).old.1
  refine wp_region_later (by kernel_rfl) (by kernel_rfl) ?_
  repeat (go_big_quiet_step ((go_at_call 13; (first | (with_reducible exact Calls.later (A1.out _ (HT.out.ext (Ext.trans hb (Later.ext _))))) | (with_reducible exact Calls.later (A2.out _ (HT.out.ext (Ext.trans hb (Later.ext _)))))))))
  refine wpQuiet_nil ?_
  intro w2 hw2
  replace hb := Ext.trans hb (Later.of hw2)
  clear hw2 hL
  obtain ⟨hc, hf⟩ := hb.old
  go_wp2_with (go_at_call 17; (with_reducible refine (C3.out _).mono ?_); rintro e w3 ⟨rfl, hb1⟩; replace hb := Ext.trans hb hb1; clear hb1)
  go_ret
  exact ⟨rfl, HF.out.trans hb⟩
set_option maxRecDepth 100000 in
set_option maxHeartbeats 1000000 in
theorem order_p (x y u v a b : Int) (w : World) (hT : TabS w) (hx : In63 x) (hy : In63 y) (hu : In63 u) (hv : In63 v) (h1 : cmpd x y u v = 1) (h2 : cmpd u v x y = -1) (h3 : ang x y = a) (h4 : ang u v = b) (h : b ≤ a) :
    Calls Tryd.prog 8 #[.agg #[I x, I y], .agg #[I u, I v]] w fun e w' => e = .returned (.bool true) ∧ Ext w w' := by
  have HT := Lib.hid hT; clear hT
  have C1 := Lib.hid (cmp_val x y u v _ hx hy hu hv h1)
  have C2 := Lib.hid (cmp_val u v x y _ hu hv hx hy h2)
  have C3 := Lib.hid (cmp_val x y x y 0 hx hy hx hy (cmpd_refl x y))
  have A1 := Lib.hid (ang_val x y _ hx hy h3)
  have A2 := Lib.hid (ang_val u v _ hu hv h4)
  clear h1 h2 h3 h4 hx hy hu hv
  go_enter Tryd.func8, Tryd.ntmps8
  go_wp2_with (first | (go_at_call 12; refine (awake_any _ (HT.out.ext ((Ext.alloc _ _).trans (Ext.alloc _ _)))).mono ?_; rintro e w1 ⟨rfl, hb1⟩; (first | replace hb := Ext.trans hb hb1 | replace hb := Ext.trans (Ext.trans hb (Ext.drewN _ _)) hb1 | replace hb := Ext.trans (Ext.trans hb (Ext.alloc _ _)) hb1 | have hb := hb1); clear hb1; obtain ⟨hc1, hf1⟩ := hb.old))
  clear hc1 hf1
  obtain ⟨HF, hz, hz', c0, c1, c2, c3⟩ := two_boxes_at hb
  clear hb
  replace HT := Lib.hid (HT.out.ext HF)
  replace HF := Lib.hid HF
  have hb := Ext.refl w1
  have hL := fun (x : Later _) => (Ext.trans hb x.ext).old.1
  refine wp_region_later (by kernel_rfl) (by kernel_rfl) ?_
  repeat (go_big_quiet_step ((go_at_call 17; (first | (with_reducible exact Calls.later (C1.out _)) | (with_reducible exact Calls.later (C2.out _))))))
  refine wpQuiet_nil ?_
  intro w2 hw2
  replace hb := Ext.trans hb (Later.of hw2)
  clear hw2 hL
  obtain ⟨hc, hf⟩ := hb.old
  go_wp2_with fail
  have hL := fun (x : Later _) => (Ext.trans hb x.ext).old.1
  refine wp_region_later (by kernel_rfl) (by kernel_rfl) ?_
  repeat (go_big_quiet_step ((go_at_call 13; (first | (with_reducible exact Calls.later (A1.out _ (HT.out.ext (Ext.trans hb (Later.ext _))))) | (with_reducible exact Calls.later (A2.out _ (HT.out.ext (Ext.trans hb (Later.ext _)))))))))
  refine wpQuiet_nil ?_
  intro w2 hw2
  replace hb := Ext.trans hb (Later.of hw2)
  clear hw2 hL
  obtain ⟨hc, hf⟩ := hb.old
  go_wp2_with (go_at_call 17; (with_reducible refine (C3.out _).mono ?_); rintro e w3 ⟨rfl, hb1⟩; replace hb := Ext.trans hb hb1; clear hb1)
  go_ret
  exact ⟨rfl, HF.out.trans hb⟩
theorem order_pays (x y u v : Int) : (cmpd x y u v = 0 ∧ cmpd u v x y = 0 ∧ ang x y = ang u v) ∨ (cmpd x y u v = -1 ∧ cmpd u v x y = 1 ∧ ang x y ≤ ang u v) ∨ (cmpd x y u v = 1 ∧ cmpd u v x y = -1 ∧ ang u v ≤ ang x y) := by
  obtain ⟨o1, o2, o3⟩ := order_law x y u v
  have := cmpd_anti x y u v
  have := cmpd_bd x y u v
  rcases (show cmpd x y u v = 0 ∨ cmpd x y u v = -1 ∨ cmpd x y u v = 1 by omega) with h | h | h
  · exact .inl ⟨h, by omega, o1 h⟩
  · exact .inr (.inl ⟨h, by omega, o2 (by omega)⟩)
  · exact .inr (.inr ⟨h, by omega, o3 (by omega)⟩)
theorem order_law' (x y u v : Int) (w : World) (hT : TabS w) (hx : In63 x) (hy : In63 y) (hu : In63 u) (hv : In63 v) : Calls Tryd.prog 8 #[.agg #[I x, I y], .agg #[I u, I v]] w fun e w' => e = .returned (.bool true) ∧ Ext w w' := by
  rcases order_pays x y u v with ⟨h1, h2, h⟩ | ⟨h1, h2, h⟩ | ⟨h1, h2, h⟩
  · exact order_z x y u v _ _ w hT hx hy hu hv h1 h2 rfl rfl h
  · exact order_m x y u v _ _ w hT hx hy hu hv h1 h2 rfl rfl h
  · exact order_p x y u v _ _ w hT hx hy hu hv h1 h2 rfl rfl h
end Go.Proofs.YtecpkggnjajppaaDoor
