/- The law AngleGoes: it returns true. -/
import Derived.Test.YtfjkijpfkpcjdaaAngf
import Derived.Deep.DeepCutAuto
namespace Go.Proofs.Ytfjkijpfkpcjdaa
open Go.RowKit

theorem ab_or' (d : Int) : (ab d = d ∧ 0 ≤ d) ∨ (ab d = -d ∧ d < 0) := by unfold ab; split <;> omega
theorem go_a {a P : Int} (h : -32768 ≤ P) (h' : P ≤ 32768) : dst a (nrm (a + P)) = ab P := by unfold dst ab dff nrm; split <;> split <;> omega
theorem go_b {a b P : Int} (h : -32768 ≤ P - dff b a) (h' : P - dff b a ≤ 32768) : dst (nrm (a + P)) b = ab (P - dff b a) := by
  unfold dst ab; unfold dff at *; unfold nrm; split <;> split <;> omega
theorem go_all (a b lo hi den : Int) (h0 : 0 ≤ lo) (h1 : lo ≤ hi) (h2 : hi < den) :
    dst a (nrm (a + (dff b a * lo).tdiv den)) ≤ dst a (nrm (a + (dff b a * hi).tdiv den)) ∧
    dst a (nrm (a + (dff b a * lo).tdiv den)) + dst (nrm (a + (dff b a * lo).tdiv den)) b = dst a b ∧
    dst (nrm (a + (dff b a * hi).tdiv den)) b ≤ dst (nrm (a + (dff b a * lo).tdiv den)) b := by
  obtain ⟨d0, d1⟩ := dff_bd b a
  obtain ⟨p1, p2⟩ := part_bd (D := dff b a) (n := lo) (d := den) (by omega) h0 (by omega)
  obtain ⟨q1, q2⟩ := part_bd (D := dff b a) (n := hi) (d := den) (by omega) (by omega) (by omega)
  obtain ⟨m1, m2⟩ := part_mono (D := dff b a) (n := lo) (m := hi) (d := den) (by omega) h0 h1
  have e : dst a b = ab (dff b a) := dst_symm a b
  generalize (dff b a * lo).tdiv den = P at *
  generalize (dff b a * hi).tdiv den = Q at *
  have o3 := ab_or' (dff b a)
  rw [← e] at o3
  rw [go_a (a := a) (P := P) (by omega) (by omega), go_a (a := a) (P := Q) (by omega) (by omega), go_b (a := a) (b := b) (P := P) (by omega) (by omega), go_b (a := a) (b := b) (P := Q) (by omega) (by omega)]
  have o1 := ab_or' P
  have o2 := ab_or' Q
  have o4 := ab_or' (P - dff b a)
  have o5 := ab_or' (Q - dff b a)
  generalize dff b a = D at *
  clear e
  omega
theorem itp_0 {a b d : Int} (h1 : 1 ≤ d) (h2 : d ≤ 1048576) : itp a b 0 d = (nrm a, 0) := by
  rw [itp_t h1 h2 (by omega) (by omega), Int.mul_zero, Int.zero_tdiv, Int.add_zero]
theorem itp_1 {a b d : Int} (h1 : 1 ≤ d) (h2 : d ≤ 1048576) : itp a b d d = (nrm b, 0) := by
  rw [itp_t h1 h2 (by omega) (by omega), Int.mul_tdiv_cancel _ (by omega)]
  have : nrm (a + dff b a) = nrm b := cyc_b b a
  rw [this]
theorem interp_is (a b n d v : Int) (w : World) (h : itp a b n d = (v, 0)) : Calls Try.prog 26 #[I a, I b, I n, I d] w fun e w' => e = .returned (.tuple #[I v, .nilIface]) ∧ Ext w w' :=
  (interp_any a b n d w).mono fun _ _ ⟨he, hw⟩ => ⟨by rw [he, h]; rfl, hw⟩

set_option maxRecDepth 100000 in
set_option maxHeartbeats 1000000 in
theorem goes_a1 (a b p0 p1 p2 : Int) (w : World) (a0 : 0 ≤ p0) (a1 : p0 ≤ 65535) (b0 : 0 ≤ p1) (b1 : p1 ≤ 65535) (c0 : 0 ≤ p2) (c1 : p2 ≤ 65535) (h1 : p0 < p1) (h2 : p1 < p2) :
    Calls Try.prog 11 #[I a, I b, .agg #[.int .u16 p0, .int .u16 p1, .int .u16 p2]] w fun e w' => e = .returned (.bool true) ∧ Ext w w' := by
  have G := go_all a b p0 p1 (1 + p2) (by omega) (by omega) (by omega)
  have I0 := Lib.hid (itp_0 (a := a) (b := b) (d := 1 + p2) (by omega) (by omega))
  have I1 := Lib.hid (itp_1 (a := a) (b := b) (d := 1 + p2) (by omega) (by omega))
  have IX := Lib.hid (itp_t (a := a) (b := b) (n := p0) (d := 1 + p2) (by omega) (by omega) (by omega) (by omega))
  have IY := Lib.hid (itp_t (a := a) (b := b) (n := p1) (d := 1 + p2) (by omega) (by omega) (by omega) (by omega))
  generalize nrm (a + (dff b a * p0).tdiv (1 + p2)) = X at *
  generalize nrm (a + (dff b a * p1).tdiv (1 + p2)) = Y at *
  obtain ⟨g1, g2, g3⟩ := G
  have g2' : (dst a X + dst X b == dst a b) = true := by simpa using g2
  have G2 := Lib.hid g2; clear g2
  obtain ⟨x0, x1⟩ := dst_bd a X
  obtain ⟨x2, x3⟩ := dst_bd X b
  go_enter Try.func11, Try.ntmps11
  go_wp2_with (first
    | (go_at_call 13; refine (awake_any _).mono ?_; rintro e w1 ⟨rfl, hb1⟩; (first | replace hb := Ext.trans hb hb1 | replace hb := Ext.trans (Ext.trans hb (Ext.drewN _ _)) hb1 | replace hb := Ext.trans (Ext.trans hb (Ext.alloc _ _)) hb1 | have hb := hb1); clear hb1; obtain ⟨hc1, hf1⟩ := hb.old))
  have hL := fun (x : Later _) => (Ext.trans hb x.ext).old.1
  refine wp_region_later (by kernel_rfl) (by kernel_rfl) ?_
  repeat (go_big_quiet_step ((fail)))
  refine wpQuiet_nil ?_
  intro w2 hw2
  replace hb := Ext.trans hb (Later.of hw2)
  clear hw2 hL
  obtain ⟨hc, hf⟩ := hb.old
  go_wp2_with (first
    | (go_at_call 26; (first | (with_reducible refine (interp_is _ _ _ _ _ _ I0.out).mono ?_) | (with_reducible refine (interp_is _ _ _ _ _ _ I1.out).mono ?_) | (with_reducible refine (interp_is _ _ _ _ _ _ IX.out).mono ?_) | (with_reducible refine (interp_is _ _ _ _ _ _ IY.out).mono ?_)); rintro e w1 ⟨rfl, hb1⟩; replace hb := Ext.trans hb hb1; clear hb1; obtain ⟨hc1, hf1⟩ := hb.old)
    | (go_at_call 14; refine (norm_any _ _).mono ?_; rintro e w1 ⟨rfl, hb1⟩; (first | replace hb := Ext.trans hb hb1 | replace hb := Ext.trans (Ext.trans hb (Ext.drewN _ _)) hb1 | replace hb := Ext.trans (Ext.trans hb (Ext.alloc _ _)) hb1 | have hb := hb1); clear hb1; obtain ⟨hc1, hf1⟩ := hb.old)
    | (go_at_call 18; refine (dist_any _ _ _).mono ?_; rintro e w1 ⟨rfl, hb1⟩; (first | replace hb := Ext.trans hb hb1 | replace hb := Ext.trans (Ext.trans hb (Ext.drewN _ _)) hb1 | replace hb := Ext.trans (Ext.trans hb (Ext.alloc _ _)) hb1 | have hb := hb1); clear hb1; obtain ⟨hc1, hf1⟩ := hb.old))
  go_ret
  exact ⟨rfl, (by repeat (first | exact Ext.refl _ | assumption | exact Ext.alloc _ _ | refine Ext.trans ?_ (by assumption) | refine Ext.trans ?_ (Ext.alloc _ _) | refine Ext.trans ?_ (Ext.drewN _ _) | refine Ext.trans ?_ (Ext.drew _)))⟩

set_option maxRecDepth 100000 in
set_option maxHeartbeats 1000000 in
theorem goes_a2 (a b p0 p1 p2 : Int) (w : World) (a0 : 0 ≤ p0) (a1 : p0 ≤ 65535) (b0 : 0 ≤ p1) (b1 : p1 ≤ 65535) (_c0 : 0 ≤ p2) (_c1 : p2 ≤ 65535) (h1 : p0 < p1) (h2 : ¬ p1 < p2) :
    Calls Try.prog 11 #[I a, I b, .agg #[.int .u16 p0, .int .u16 p1, .int .u16 p2]] w fun e w' => e = .returned (.bool true) ∧ Ext w w' := by
  have G := go_all a b p0 p1 (1 + p1) (by omega) (by omega) (by omega)
  have I0 := Lib.hid (itp_0 (a := a) (b := b) (d := 1 + p1) (by omega) (by omega))
  have I1 := Lib.hid (itp_1 (a := a) (b := b) (d := 1 + p1) (by omega) (by omega))
  have IX := Lib.hid (itp_t (a := a) (b := b) (n := p0) (d := 1 + p1) (by omega) (by omega) (by omega) (by omega))
  have IY := Lib.hid (itp_t (a := a) (b := b) (n := p1) (d := 1 + p1) (by omega) (by omega) (by omega) (by omega))
  generalize nrm (a + (dff b a * p0).tdiv (1 + p1)) = X at *
  generalize nrm (a + (dff b a * p1).tdiv (1 + p1)) = Y at *
  obtain ⟨g1, g2, g3⟩ := G
  have g2' : (dst a X + dst X b == dst a b) = true := by simpa using g2
  have G2 := Lib.hid g2; clear g2
  obtain ⟨x0, x1⟩ := dst_bd a X
  obtain ⟨x2, x3⟩ := dst_bd X b
  go_enter Try.func11, Try.ntmps11
  go_wp2_with (first
    | (go_at_call 13; refine (awake_any _).mono ?_; rintro e w1 ⟨rfl, hb1⟩; (first | replace hb := Ext.trans hb hb1 | replace hb := Ext.trans (Ext.trans hb (Ext.drewN _ _)) hb1 | replace hb := Ext.trans (Ext.trans hb (Ext.alloc _ _)) hb1 | have hb := hb1); clear hb1; obtain ⟨hc1, hf1⟩ := hb.old))
  have hL := fun (x : Later _) => (Ext.trans hb x.ext).old.1
  refine wp_region_later (by kernel_rfl) (by kernel_rfl) ?_
  repeat (go_big_quiet_step ((fail)))
  refine wpQuiet_nil ?_
  intro w2 hw2
  replace hb := Ext.trans hb (Later.of hw2)
  clear hw2 hL
  obtain ⟨hc, hf⟩ := hb.old
  go_wp2_with (first
    | (go_at_call 26; (first | (with_reducible refine (interp_is _ _ _ _ _ _ I0.out).mono ?_) | (with_reducible refine (interp_is _ _ _ _ _ _ I1.out).mono ?_) | (with_reducible refine (interp_is _ _ _ _ _ _ IX.out).mono ?_) | (with_reducible refine (interp_is _ _ _ _ _ _ IY.out).mono ?_)); rintro e w1 ⟨rfl, hb1⟩; replace hb := Ext.trans hb hb1; clear hb1; obtain ⟨hc1, hf1⟩ := hb.old)
    | (go_at_call 14; refine (norm_any _ _).mono ?_; rintro e w1 ⟨rfl, hb1⟩; (first | replace hb := Ext.trans hb hb1 | replace hb := Ext.trans (Ext.trans hb (Ext.drewN _ _)) hb1 | replace hb := Ext.trans (Ext.trans hb (Ext.alloc _ _)) hb1 | have hb := hb1); clear hb1; obtain ⟨hc1, hf1⟩ := hb.old)
    | (go_at_call 18; refine (dist_any _ _ _).mono ?_; rintro e w1 ⟨rfl, hb1⟩; (first | replace hb := Ext.trans hb hb1 | replace hb := Ext.trans (Ext.trans hb (Ext.drewN _ _)) hb1 | replace hb := Ext.trans (Ext.trans hb (Ext.alloc _ _)) hb1 | have hb := hb1); clear hb1; obtain ⟨hc1, hf1⟩ := hb.old))
  go_ret
  exact ⟨rfl, (by repeat (first | exact Ext.refl _ | assumption | exact Ext.alloc _ _ | refine Ext.trans ?_ (by assumption) | refine Ext.trans ?_ (Ext.alloc _ _) | refine Ext.trans ?_ (Ext.drewN _ _) | refine Ext.trans ?_ (Ext.drew _)))⟩

set_option maxRecDepth 100000 in
set_option maxHeartbeats 1000000 in
theorem goes_b1 (a b p0 p1 p2 : Int) (w : World) (a0 : 0 ≤ p0) (a1 : p0 ≤ 65535) (b0 : 0 ≤ p1) (b1 : p1 ≤ 65535) (c0 : 0 ≤ p2) (c1 : p2 ≤ 65535) (h1 : p1 < p0) (h2 : p0 < p2) :
    Calls Try.prog 11 #[I a, I b, .agg #[.int .u16 p0, .int .u16 p1, .int .u16 p2]] w fun e w' => e = .returned (.bool true) ∧ Ext w w' := by
  have G := go_all a b p1 p0 (1 + p2) (by omega) (by omega) (by omega)
  have I0 := Lib.hid (itp_0 (a := a) (b := b) (d := 1 + p2) (by omega) (by omega))
  have I1 := Lib.hid (itp_1 (a := a) (b := b) (d := 1 + p2) (by omega) (by omega))
  have IX := Lib.hid (itp_t (a := a) (b := b) (n := p1) (d := 1 + p2) (by omega) (by omega) (by omega) (by omega))
  have IY := Lib.hid (itp_t (a := a) (b := b) (n := p0) (d := 1 + p2) (by omega) (by omega) (by omega) (by omega))
  generalize nrm (a + (dff b a * p1).tdiv (1 + p2)) = X at *
  generalize nrm (a + (dff b a * p0).tdiv (1 + p2)) = Y at *
  obtain ⟨g1, g2, g3⟩ := G
  have g2' : (dst a X + dst X b == dst a b) = true := by simpa using g2
  have G2 := Lib.hid g2; clear g2
  obtain ⟨x0, x1⟩ := dst_bd a X
  obtain ⟨x2, x3⟩ := dst_bd X b
  go_enter Try.func11, Try.ntmps11
  go_wp2_with (first
    | (go_at_call 13; refine (awake_any _).mono ?_; rintro e w1 ⟨rfl, hb1⟩; (first | replace hb := Ext.trans hb hb1 | replace hb := Ext.trans (Ext.trans hb (Ext.drewN _ _)) hb1 | replace hb := Ext.trans (Ext.trans hb (Ext.alloc _ _)) hb1 | have hb := hb1); clear hb1; obtain ⟨hc1, hf1⟩ := hb.old))
  have hL := fun (x : Later _) => (Ext.trans hb x.ext).old.1
  refine wp_region_later (by kernel_rfl) (by kernel_rfl) ?_
  repeat (go_big_quiet_step ((fail)))
  refine wpQuiet_nil ?_
  intro w2 hw2
  replace hb := Ext.trans hb (Later.of hw2)
  clear hw2 hL
  obtain ⟨hc, hf⟩ := hb.old
  go_wp2_with (first
    | (go_at_call 26; (first | (with_reducible refine (interp_is _ _ _ _ _ _ I0.out).mono ?_) | (with_reducible refine (interp_is _ _ _ _ _ _ I1.out).mono ?_) | (with_reducible refine (interp_is _ _ _ _ _ _ IX.out).mono ?_) | (with_reducible refine (interp_is _ _ _ _ _ _ IY.out).mono ?_)); rintro e w1 ⟨rfl, hb1⟩; replace hb := Ext.trans hb hb1; clear hb1; obtain ⟨hc1, hf1⟩ := hb.old)
    | (go_at_call 14; refine (norm_any _ _).mono ?_; rintro e w1 ⟨rfl, hb1⟩; (first | replace hb := Ext.trans hb hb1 | replace hb := Ext.trans (Ext.trans hb (Ext.drewN _ _)) hb1 | replace hb := Ext.trans (Ext.trans hb (Ext.alloc _ _)) hb1 | have hb := hb1); clear hb1; obtain ⟨hc1, hf1⟩ := hb.old)
    | (go_at_call 18; refine (dist_any _ _ _).mono ?_; rintro e w1 ⟨rfl, hb1⟩; (first | replace hb := Ext.trans hb hb1 | replace hb := Ext.trans (Ext.trans hb (Ext.drewN _ _)) hb1 | replace hb := Ext.trans (Ext.trans hb (Ext.alloc _ _)) hb1 | have hb := hb1); clear hb1; obtain ⟨hc1, hf1⟩ := hb.old))
  go_ret
  exact ⟨rfl, (by repeat (first | exact Ext.refl _ | assumption | exact Ext.alloc _ _ | refine Ext.trans ?_ (by assumption) | refine Ext.trans ?_ (Ext.alloc _ _) | refine Ext.trans ?_ (Ext.drewN _ _) | refine Ext.trans ?_ (Ext.drew _)))⟩

set_option maxRecDepth 100000 in
set_option maxHeartbeats 1000000 in
theorem goes_b2 (a b p0 p1 p2 : Int) (w : World) (a0 : 0 ≤ p0) (a1 : p0 ≤ 65535) (b0 : 0 ≤ p1) (b1 : p1 ≤ 65535) (_c0 : 0 ≤ p2) (_c1 : p2 ≤ 65535) (h1 : p1 < p0) (h2 : ¬ p0 < p2) :
    Calls Try.prog 11 #[I a, I b, .agg #[.int .u16 p0, .int .u16 p1, .int .u16 p2]] w fun e w' => e = .returned (.bool true) ∧ Ext w w' := by
  have G := go_all a b p1 p0 (1 + p0) (by omega) (by omega) (by omega)
  have I0 := Lib.hid (itp_0 (a := a) (b := b) (d := 1 + p0) (by omega) (by omega))
  have I1 := Lib.hid (itp_1 (a := a) (b := b) (d := 1 + p0) (by omega) (by omega))
  have IX := Lib.hid (itp_t (a := a) (b := b) (n := p1) (d := 1 + p0) (by omega) (by omega) (by omega) (by omega))
  have IY := Lib.hid (itp_t (a := a) (b := b) (n := p0) (d := 1 + p0) (by omega) (by omega) (by omega) (by omega))
  generalize nrm (a + (dff b a * p1).tdiv (1 + p0)) = X at *
  generalize nrm (a + (dff b a * p0).tdiv (1 + p0)) = Y at *
  obtain ⟨g1, g2, g3⟩ := G
  have g2' : (dst a X + dst X b == dst a b) = true := by simpa using g2
  have G2 := Lib.hid g2; clear g2
  obtain ⟨x0, x1⟩ := dst_bd a X
  obtain ⟨x2, x3⟩ := dst_bd X b
  go_enter Try.func11, Try.ntmps11
  go_wp2_with (first
    | (go_at_call 13; refine (awake_any _).mono ?_; rintro e w1 ⟨rfl, hb1⟩; (first | replace hb := Ext.trans hb hb1 | replace hb := Ext.trans (Ext.trans hb (Ext.drewN _ _)) hb1 | replace hb := Ext.trans (Ext.trans hb (Ext.alloc _ _)) hb1 | have hb := hb1); clear hb1; obtain ⟨hc1, hf1⟩ := hb.old))
  have hL := fun (x : Later _) => (Ext.trans hb x.ext).old.1
  refine wp_region_later (by kernel_rfl) (by kernel_rfl) ?_
  repeat (go_big_quiet_step ((fail)))
  refine wpQuiet_nil ?_
  intro w2 hw2
  replace hb := Ext.trans hb (Later.of hw2)
  clear hw2 hL
  obtain ⟨hc, hf⟩ := hb.old
  go_wp2_with (first
    | (go_at_call 26; (first | (with_reducible refine (interp_is _ _ _ _ _ _ I0.out).mono ?_) | (with_reducible refine (interp_is _ _ _ _ _ _ I1.out).mono ?_) | (with_reducible refine (interp_is _ _ _ _ _ _ IX.out).mono ?_) | (with_reducible refine (interp_is _ _ _ _ _ _ IY.out).mono ?_)); rintro e w1 ⟨rfl, hb1⟩; replace hb := Ext.trans hb hb1; clear hb1; obtain ⟨hc1, hf1⟩ := hb.old)
    | (go_at_call 14; refine (norm_any _ _).mono ?_; rintro e w1 ⟨rfl, hb1⟩; (first | replace hb := Ext.trans hb hb1 | replace hb := Ext.trans (Ext.trans hb (Ext.drewN _ _)) hb1 | replace hb := Ext.trans (Ext.trans hb (Ext.alloc _ _)) hb1 | have hb := hb1); clear hb1; obtain ⟨hc1, hf1⟩ := hb.old)
    | (go_at_call 18; refine (dist_any _ _ _).mono ?_; rintro e w1 ⟨rfl, hb1⟩; (first | replace hb := Ext.trans hb hb1 | replace hb := Ext.trans (Ext.trans hb (Ext.drewN _ _)) hb1 | replace hb := Ext.trans (Ext.trans hb (Ext.alloc _ _)) hb1 | have hb := hb1); clear hb1; obtain ⟨hc1, hf1⟩ := hb.old))
  go_ret
  exact ⟨rfl, (by repeat (first | exact Ext.refl _ | assumption | exact Ext.alloc _ _ | refine Ext.trans ?_ (by assumption) | refine Ext.trans ?_ (Ext.alloc _ _) | refine Ext.trans ?_ (Ext.drewN _ _) | refine Ext.trans ?_ (Ext.drew _)))⟩

set_option maxRecDepth 100000 in
set_option maxHeartbeats 1000000 in
theorem goes_c1 (a b p0 p2 : Int) (w : World) (a0 : 0 ≤ p0) (a1 : p0 ≤ 65535) (c0 : 0 ≤ p2) (c1 : p2 ≤ 65535) (h2 : p0 < p2) :
    Calls Try.prog 11 #[I a, I b, .agg #[.int .u16 p0, .int .u16 p0, .int .u16 p2]] w fun e w' => e = .returned (.bool true) ∧ Ext w w' := by
  have G := go_all a b p0 p0 (1 + p2) (by omega) (by omega) (by omega)
  have I0 := Lib.hid (itp_0 (a := a) (b := b) (d := 1 + p2) (by omega) (by omega))
  have I1 := Lib.hid (itp_1 (a := a) (b := b) (d := 1 + p2) (by omega) (by omega))
  have IX := Lib.hid (itp_t (a := a) (b := b) (n := p0) (d := 1 + p2) (by omega) (by omega) (by omega) (by omega))
  have IY := Lib.hid (itp_t (a := a) (b := b) (n := p0) (d := 1 + p2) (by omega) (by omega) (by omega) (by omega))
  generalize nrm (a + (dff b a * p0).tdiv (1 + p2)) = X at *
  skip
  obtain ⟨g1, g2, g3⟩ := G
  have g2' : (dst a X + dst X b == dst a b) = true := by simpa using g2
  have G2 := Lib.hid g2; clear g2
  obtain ⟨x0, x1⟩ := dst_bd a X
  obtain ⟨x2, x3⟩ := dst_bd X b
  go_enter Try.func11, Try.ntmps11
  go_wp2_with (first
    | (go_at_call 13; refine (awake_any _).mono ?_; rintro e w1 ⟨rfl, hb1⟩; (first | replace hb := Ext.trans hb hb1 | replace hb := Ext.trans (Ext.trans hb (Ext.drewN _ _)) hb1 | replace hb := Ext.trans (Ext.trans hb (Ext.alloc _ _)) hb1 | have hb := hb1); clear hb1; obtain ⟨hc1, hf1⟩ := hb.old))
  have hL := fun (x : Later _) => (Ext.trans hb x.ext).old.1
  refine wp_region_later (by kernel_rfl) (by kernel_rfl) ?_
  repeat (go_big_quiet_step ((fail)))
  refine wpQuiet_nil ?_
  intro w2 hw2
  replace hb := Ext.trans hb (Later.of hw2)
  clear hw2 hL
  obtain ⟨hc, hf⟩ := hb.old
  go_wp2_with (first
    | (go_at_call 26; (first | (with_reducible refine (interp_is _ _ _ _ _ _ I0.out).mono ?_) | (with_reducible refine (interp_is _ _ _ _ _ _ I1.out).mono ?_) | (with_reducible refine (interp_is _ _ _ _ _ _ IX.out).mono ?_) | (with_reducible refine (interp_is _ _ _ _ _ _ IY.out).mono ?_)); rintro e w1 ⟨rfl, hb1⟩; replace hb := Ext.trans hb hb1; clear hb1; obtain ⟨hc1, hf1⟩ := hb.old)
    | (go_at_call 14; refine (norm_any _ _).mono ?_; rintro e w1 ⟨rfl, hb1⟩; (first | replace hb := Ext.trans hb hb1 | replace hb := Ext.trans (Ext.trans hb (Ext.drewN _ _)) hb1 | replace hb := Ext.trans (Ext.trans hb (Ext.alloc _ _)) hb1 | have hb := hb1); clear hb1; obtain ⟨hc1, hf1⟩ := hb.old)
    | (go_at_call 18; refine (dist_any _ _ _).mono ?_; rintro e w1 ⟨rfl, hb1⟩; (first | replace hb := Ext.trans hb hb1 | replace hb := Ext.trans (Ext.trans hb (Ext.drewN _ _)) hb1 | replace hb := Ext.trans (Ext.trans hb (Ext.alloc _ _)) hb1 | have hb := hb1); clear hb1; obtain ⟨hc1, hf1⟩ := hb.old))
  go_ret
  exact ⟨rfl, (by repeat (first | exact Ext.refl _ | assumption | exact Ext.alloc _ _ | refine Ext.trans ?_ (by assumption) | refine Ext.trans ?_ (Ext.alloc _ _) | refine Ext.trans ?_ (Ext.drewN _ _) | refine Ext.trans ?_ (Ext.drew _)))⟩

set_option maxRecDepth 100000 in
set_option maxHeartbeats 1000000 in
theorem goes_c2 (a b p0 p2 : Int) (w : World) (a0 : 0 ≤ p0) (a1 : p0 ≤ 65535) (_c0 : 0 ≤ p2) (_c1 : p2 ≤ 65535) (h2 : ¬ p0 < p2) :
    Calls Try.prog 11 #[I a, I b, .agg #[.int .u16 p0, .int .u16 p0, .int .u16 p2]] w fun e w' => e = .returned (.bool true) ∧ Ext w w' := by
  have G := go_all a b p0 p0 (1 + p0) (by omega) (by omega) (by omega)
  have I0 := Lib.hid (itp_0 (a := a) (b := b) (d := 1 + p0) (by omega) (by omega))
  have I1 := Lib.hid (itp_1 (a := a) (b := b) (d := 1 + p0) (by omega) (by omega))
  have IX := Lib.hid (itp_t (a := a) (b := b) (n := p0) (d := 1 + p0) (by omega) (by omega) (by omega) (by omega))
  have IY := Lib.hid (itp_t (a := a) (b := b) (n := p0) (d := 1 + p0) (by omega) (by omega) (by omega) (by omega))
  generalize nrm (a + (dff b a * p0).tdiv (1 + p0)) = X at *
  skip
  obtain ⟨g1, g2, g3⟩ := G
  have g2' : (dst a X + dst X b == dst a b) = true := by simpa using g2
  have G2 := Lib.hid g2; clear g2
  obtain ⟨x0, x1⟩ := dst_bd a X
  obtain ⟨x2, x3⟩ := dst_bd X b
  go_enter Try.func11, Try.ntmps11
  go_wp2_with (first
    | (go_at_call 13; refine (awake_any _).mono ?_; rintro e w1 ⟨rfl, hb1⟩; (first | replace hb := Ext.trans hb hb1 | replace hb := Ext.trans (Ext.trans hb (Ext.drewN _ _)) hb1 | replace hb := Ext.trans (Ext.trans hb (Ext.alloc _ _)) hb1 | have hb := hb1); clear hb1; obtain ⟨hc1, hf1⟩ := hb.old))
  have hL := fun (x : Later _) => (Ext.trans hb x.ext).old.1
  refine wp_region_later (by kernel_rfl) (by kernel_rfl) ?_
  repeat (go_big_quiet_step ((fail)))
  refine wpQuiet_nil ?_
  intro w2 hw2
  replace hb := Ext.trans hb (Later.of hw2)
  clear hw2 hL
  obtain ⟨hc, hf⟩ := hb.old
  go_wp2_with (first
    | (go_at_call 26; (first | (with_reducible refine (interp_is _ _ _ _ _ _ I0.out).mono ?_) | (with_reducible refine (interp_is _ _ _ _ _ _ I1.out).mono ?_) | (with_reducible refine (interp_is _ _ _ _ _ _ IX.out).mono ?_) | (with_reducible refine (interp_is _ _ _ _ _ _ IY.out).mono ?_)); rintro e w1 ⟨rfl, hb1⟩; replace hb := Ext.trans hb hb1; clear hb1; obtain ⟨hc1, hf1⟩ := hb.old)
    | (go_at_call 14; refine (norm_any _ _).mono ?_; rintro e w1 ⟨rfl, hb1⟩; (first | replace hb := Ext.trans hb hb1 | replace hb := Ext.trans (Ext.trans hb (Ext.drewN _ _)) hb1 | replace hb := Ext.trans (Ext.trans hb (Ext.alloc _ _)) hb1 | have hb := hb1); clear hb1; obtain ⟨hc1, hf1⟩ := hb.old)
    | (go_at_call 18; refine (dist_any _ _ _).mono ?_; rintro e w1 ⟨rfl, hb1⟩; (first | replace hb := Ext.trans hb hb1 | replace hb := Ext.trans (Ext.trans hb (Ext.drewN _ _)) hb1 | replace hb := Ext.trans (Ext.trans hb (Ext.alloc _ _)) hb1 | have hb := hb1); clear hb1; obtain ⟨hc1, hf1⟩ := hb.old))
  go_ret
  exact ⟨rfl, (by repeat (first | exact Ext.refl _ | assumption | exact Ext.alloc _ _ | refine Ext.trans ?_ (by assumption) | refine Ext.trans ?_ (Ext.alloc _ _) | refine Ext.trans ?_ (Ext.drewN _ _) | refine Ext.trans ?_ (Ext.drew _)))⟩

theorem goes_law (a b p0 p1 p2 : Int) (w : World) (h0 : 0 ≤ p0 ∧ p0 ≤ 65535) (h1 : 0 ≤ p1 ∧ p1 ≤ 65535) (h2 : 0 ≤ p2 ∧ p2 ≤ 65535) :
    Calls Try.prog 11 #[I a, I b, .agg #[.int .u16 p0, .int .u16 p1, .int .u16 p2]] w fun e w' => e = .returned (.bool true) ∧ Ext w w' := by
  obtain h | h | h : p0 < p1 ∨ p1 < p0 ∨ p0 = p1 := by omega
  · by_cases k : p1 < p2
    · exact goes_a1 a b p0 p1 p2 w h0.1 h0.2 h1.1 h1.2 h2.1 h2.2 h k
    · exact goes_a2 a b p0 p1 p2 w h0.1 h0.2 h1.1 h1.2 h2.1 h2.2 h k
  · by_cases k : p0 < p2
    · exact goes_b1 a b p0 p1 p2 w h0.1 h0.2 h1.1 h1.2 h2.1 h2.2 h k
    · exact goes_b2 a b p0 p1 p2 w h0.1 h0.2 h1.1 h1.2 h2.1 h2.2 h k
  · subst h
    by_cases k : p0 < p2
    · exact goes_c1 a b p0 p2 w h0.1 h0.2 h2.1 h2.2 k
    · exact goes_c2 a b p0 p2 w h0.1 h0.2 h2.1 h2.2 k
theorem u16w {n : Int} (h : (Lit.int .u16 n).wf = true) : 0 ≤ n ∧ n ≤ 65535 := by simp [Lit.wf, IntKind.min, IntKind.max, IntKind.signed, IntKind.bits] at h; omega
end Go.Proofs.Ytfjkijpfkpcjdaa
