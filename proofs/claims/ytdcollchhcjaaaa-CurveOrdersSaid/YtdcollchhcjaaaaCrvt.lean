/- Curves: Below by the code. -/
import Derived.Test.YtdcollchhcjaaaaCrvl
namespace Go.Proofs.Ytdcollchhcjaaaa
open Go.RowKit

theorem hid_iff {a b : Prop} (h1 : a → b) (h2 : b → a) : Hid (a ↔ b) := (⟨h1, h2⟩ : a ↔ b)
theorem cmp_lt {n : Nat} {X Y : Nat → Int} {x y num den : Int} (h : IsVal n X Y x num den) : num < y * den ↔ ¬ (y : Rat) ≤ vl n X Y x := by
  have hd := cps h.pos
  have he := h.eq
  constructor
  · intro hh hc
    have h1 := Rat.mul_le_mul_of_nonneg_right hc (Rat.le_of_lt hd)
    have h2 := clt.2 hh
    rw [Rat.intCast_mul] at h2; grind
  · intro hc
    have h1 := Rat.mul_lt_mul_of_pos_right (show vl n X Y x < (y : Rat) by grind) hd
    apply clt.1; rw [Rat.intCast_mul]; grind
theorem cmp_gt {n : Nat} {X Y : Nat → Int} {x y num den : Int} (h : IsVal n X Y x num den) : y * den < num ↔ ¬ vl n X Y x ≤ (y : Rat) := by
  have hd := cps h.pos
  have he := h.eq
  constructor
  · intro hh hc
    have h1 := Rat.mul_le_mul_of_nonneg_right hc (Rat.le_of_lt hd)
    have h2 := clt.2 hh
    rw [Rat.intCast_mul] at h2; grind
  · intro hc
    have h1 := Rat.mul_lt_mul_of_pos_right (show (y : Rat) < vl n X Y x by grind) hd
    apply clt.1; rw [Rat.intCast_mul]; grind
theorem prod_bd {y den : Int} (h1 : -1073741824 ≤ y ∧ y ≤ 1073741824) (h2 : 0 < den ∧ den ≤ 2147483648) : wrap64 (y * den) = y * den ∧ -2305843009213693952 ≤ y * den ∧ y * den ≤ 2305843009213693952 := by
  have := mul_bd (a := y) (b := den) (A := 1073741824) (B := 2147483648) (by omega) (by omega) (by omega) (by omega)
  exact ⟨wrap_id (by omega) (by omega), by omega, by omega⟩

set_option maxRecDepth 100000 in
set_option maxHeartbeats 1000000 in
theorem below_ok {w : World} {ba oa c bb ob e n bc oc d bd od f m : Nat} {X Y U V : Nat → Int} (hz : chk n n X Y = 0) (hy : chk m m U V = 0) (r : Cur w ba oa bb ob n X Y) (q : Cur w bc oc bd od m U V) :
    Calls Try.prog 30 #[cw ba oa c bb ob e n, cw bc oc d bd od f m] w fun e' w' => ∃ v : Bool, e' = .returned (.tuple #[.bool v, .nilIface]) ∧ Hid (v = true ↔ blw n X Y m U V) ∧ Ext w w' := by
  have k := (crv_of hz).2
  have l := (crv_of hy).2
  have HC := Lib.hid (fun w' (he : Ext w w') => check_ok (c := c) (e := e) hz r w' he)
  have HC2 := Lib.hid (fun w' (he : Ext w w') => check_ok (c := d) (e := f) hy q w' he)
  have HA := Lib.hid (fun (x : Int) (hx : -9223372036854775808 ≤ x ∧ x ≤ 9223372036854775807) w' (he : Ext w w') => value_any (c := c) (e := e) k (r.ext he) x hx)
  have HB := Lib.hid (fun (x : Int) (hx : -9223372036854775808 ≤ x ∧ x ≤ 9223372036854775807) w' (he : Ext w w') => value_any (c := d) (e := f) l (q.ext he) x hx)
  have hn := k.le
  have hm := l.le
  have r1 := r.la
  have r2 := r.lb
  have r3 := q.la
  have r4 := q.lb
  have a2 : ba < w.heap.size + 1 + 1 := by omega
  have a3 : ba ≠ w.heap.size := by omega
  have a4 : ba ≠ w.heap.size + 1 := by omega
  have b2 : bb < w.heap.size + 1 + 1 := by omega
  have b3 : bb ≠ w.heap.size := by omega
  have b4 : bb ≠ w.heap.size + 1 := by omega
  have c2 : bc < w.heap.size + 1 + 1 := by omega
  have c3 : bc ≠ w.heap.size := by omega
  have c4 : bc ≠ w.heap.size + 1 := by omega
  have d2 : bd < w.heap.size + 1 + 1 := by omega
  have d3 : bd ≠ w.heap.size := by omega
  have d4 : bd ≠ w.heap.size + 1 := by omega
  have K := Lib.hid k
  have L := Lib.hid l
  have R := Lib.hid r
  have Q := Lib.hid q
  clear hz hy k l r q
  go_enter Try.func30, Try.ntmps30
  go_wp2_with (first
    | (go_at_call 17; (with_reducible refine (HC.out _ ((Ext.alloc _ _).trans (Ext.alloc _ _))).mono ?_); rintro e1 w1 ⟨rfl, hb⟩; obtain ⟨hc, hf⟩ := hb.old)
    | (go_at_call 17; (with_reducible refine (HC2.out _ (((Ext.alloc _ _).trans (Ext.alloc _ _)).trans hb)).mono ?_); rintro e1 w1 ⟨rfl, hb1⟩; replace hb := Ext.trans hb hb1; clear hb1; obtain ⟨hc, hf⟩ := hb.old))
  go_loopw [29] (fun s wr => Ext ((w.alloc (.cells #[.slice (some ⟨ba, oa, none⟩) n c, .slice (some ⟨bb, ob, none⟩) n e] 24)).alloc (.cells #[.slice (some ⟨bc, oc, none⟩) m d, .slice (some ⟨bd, od, none⟩) m f] 24)) wr ∧ ∃ k : Nat, k ≤ n ∧ s = I k ∧ Hid (∀ i, i < k → (Y i : Rat) ≤ vl m U V (X i))) (fun s _ => n - (intOf s).toNat)
  case atStart => exact ⟨(by repeat (first | exact Ext.refl _ | assumption | exact Ext.alloc _ _ | refine Ext.trans ?_ (by assumption) | refine Ext.trans ?_ (Ext.alloc _ _) | refine Ext.trans ?_ (Ext.drewN _ _) | refine Ext.trans ?_ (Ext.drew _))), 0, Nat.zero_le _, rfl, fun i hi => by omega⟩
  case round =>
    clear hb hc hf
    obtain ⟨hb, k, hkn, rfl, HJ⟩ := hrel
    obtain ⟨hc, hf⟩ := hb.old
    by_cases hlt : k < n
    · have xk := R.out.ca k hlt
      have yk := R.out.cb k hlt
      have HY := Lib.hid (K.out.bY k hlt)
      have HQ := Lib.hid (HB.out (X k) (by have := K.out.bX k hlt; omega))
      have hlt2 : (k : Int) < (n : Int) := by omega
      go_wp2_with (go_at_call 42; (with_reducible refine (HQ.out _ (((Ext.alloc _ _).trans (Ext.alloc _ _)).trans hb)).mono ?_); rintro e1 w1 ⟨num, den, rfl, HV, hb1⟩; replace hb := Ext.trans hb hb1; clear hb1; obtain ⟨hc1, hf1⟩ := hb.old; obtain ⟨p1, p2, p3⟩ := prod_bd HY.out ⟨HV.out.pos, HV.out.le⟩)
      · have hh : num < Y k * den := by assumption
        go_ret2
        exact ⟨false, rfl, hid_iff (fun hx => by cases hx) (fun hx => ((cmp_lt HV.out).1 hh (hx.1 k hlt)).elim), (by repeat (first | exact Ext.refl _ | assumption | exact Ext.alloc _ _ | refine Ext.trans ?_ (by assumption) | refine Ext.trans ?_ (Ext.alloc _ _) | refine Ext.trans ?_ (Ext.drewN _ _) | refine Ext.trans ?_ (Ext.drew _)))⟩
      · have hh : Y k * den ≤ num := by assumption
        have HS : Hid (∀ i, i < k + 1 → (Y i : Rat) ≤ vl m U V (X i)) := fun i hi => by
          by_cases hik : i = k
          · subst hik
            apply Classical.byContradiction; intro hx
            have := (cmp_lt HV.out).2 hx; omega
          · exact HJ.out i (by omega)
        refine ⟨?_, ?_⟩
        · exact ⟨(by repeat (first | exact Ext.refl _ | assumption | exact Ext.alloc _ _ | refine Ext.trans ?_ (by assumption) | refine Ext.trans ?_ (Ext.alloc _ _) | refine Ext.trans ?_ (Ext.drewN _ _) | refine Ext.trans ?_ (Ext.drew _))), k + 1, by omega, by go_num, HS⟩
        · simp [intOf]; omega
    · obtain rfl : k = n := by omega
      go_wp2_with fail
      go_loopw [53] (fun s wr => Ext ((w.alloc (.cells #[.slice (some ⟨ba, oa, none⟩) k c, .slice (some ⟨bb, ob, none⟩) k e] 24)).alloc (.cells #[.slice (some ⟨bc, oc, none⟩) m d, .slice (some ⟨bd, od, none⟩) m f] 24)) wr ∧ ∃ j : Nat, j ≤ m ∧ s = I j ∧ Hid (∀ i, i < j → vl k X Y (U i) ≤ (V i : Rat))) (fun s _ => m - (intOf s).toNat)
      case atStart => exact ⟨(by repeat (first | exact Ext.refl _ | assumption | exact Ext.alloc _ _ | refine Ext.trans ?_ (by assumption) | refine Ext.trans ?_ (Ext.alloc _ _) | refine Ext.trans ?_ (Ext.drewN _ _) | refine Ext.trans ?_ (Ext.drew _))), 0, Nat.zero_le _, rfl, fun i hi => by omega⟩
      case round =>
        clear hb hc hf
        obtain ⟨hb, j, hjm, rfl, HI⟩ := hrel
        obtain ⟨hc, hf⟩ := hb.old
        by_cases hlt : j < m
        · have xk := Q.out.ca j hlt
          have yk := Q.out.cb j hlt
          have HY := Lib.hid (L.out.bY j hlt)
          have HQ := Lib.hid (HA.out (U j) (by have := L.out.bX j hlt; omega))
          have hlt2 : (j : Int) < (m : Int) := by omega
          go_wp2_with (go_at_call 42; (with_reducible refine (HQ.out _ (((Ext.alloc _ _).trans (Ext.alloc _ _)).trans hb)).mono ?_); rintro e1 w1 ⟨num, den, rfl, HV, hb1⟩; replace hb := Ext.trans hb hb1; clear hb1; obtain ⟨hc1, hf1⟩ := hb.old; obtain ⟨p1, p2, p3⟩ := prod_bd HY.out ⟨HV.out.pos, HV.out.le⟩)
          · have hh : V j * den < num := by assumption
            go_ret2
            exact ⟨false, rfl, hid_iff (fun hx => by cases hx) (fun hx => ((cmp_gt HV.out).1 hh (hx.2 j hlt)).elim), (by repeat (first | exact Ext.refl _ | assumption | exact Ext.alloc _ _ | refine Ext.trans ?_ (by assumption) | refine Ext.trans ?_ (Ext.alloc _ _) | refine Ext.trans ?_ (Ext.drewN _ _) | refine Ext.trans ?_ (Ext.drew _)))⟩
          · have hh : num ≤ V j * den := by assumption
            have HS : Hid (∀ i, i < j + 1 → vl k X Y (U i) ≤ (V i : Rat)) := fun i hi => by
              by_cases hik : i = j
              · subst hik
                apply Classical.byContradiction; intro hx
                have := (cmp_gt HV.out).2 hx; omega
              · exact HI.out i (by omega)
            refine ⟨?_, ?_⟩
            · exact ⟨(by repeat (first | exact Ext.refl _ | assumption | exact Ext.alloc _ _ | refine Ext.trans ?_ (by assumption) | refine Ext.trans ?_ (Ext.alloc _ _) | refine Ext.trans ?_ (Ext.drewN _ _) | refine Ext.trans ?_ (Ext.drew _))), j + 1, by omega, by go_num, HS⟩
            · simp [intOf]; omega
        · obtain rfl : j = m := by omega
          go_wp2_with fail
          go_ret2
          exact ⟨true, rfl, hid_iff (fun _ => ⟨HJ.out, HI.out⟩) (fun _ => rfl), (by repeat (first | exact Ext.refl _ | assumption | exact Ext.alloc _ _ | refine Ext.trans ?_ (by assumption) | refine Ext.trans ?_ (Ext.alloc _ _) | refine Ext.trans ?_ (Ext.drewN _ _) | refine Ext.trans ?_ (Ext.drew _)))⟩

set_option maxRecDepth 100000 in
set_option maxHeartbeats 1000000 in
theorem below_bad {w : World} {A B A2 B2 : Option Addr} {n c m e n2 d m2 f : Nat} {X Y : Nat → Int} {k : Int} (hz : chk n m X Y = k) (hk : k ≠ 0) (ra : Ri w A n X) (rb : Ri w B m Y) (hn : n ≤ maxLen) (hm : m ≤ maxLen) :
    Calls Try.prog 30 #[cv A n c B m e, cv A2 n2 d B2 m2 f] w fun e' w' => e' = .returned (.tuple #[.bool false, .iface 51 (I k)]) ∧ Ext w w' := by
  have HC := Lib.hid (fun w' (he : Ext w w') => check_bad (c := c) (e := e) hz hk ra rb hn hm w' he)
  clear hz hk ra rb hn hm
  go_enter Try.func30, Try.ntmps30
  go_wp2_with (go_at_call 17; (refine (HC.out _ ((Ext.alloc _ _).trans (Ext.alloc _ _))).mono ?_); rintro e1 w1 ⟨rfl, hb⟩; obtain ⟨hc, hf⟩ := hb.old)
  go_ret2
  exact ⟨rfl, (by repeat (first | exact Ext.refl _ | assumption | exact Ext.alloc _ _ | refine Ext.trans ?_ (by assumption) | refine Ext.trans ?_ (Ext.alloc _ _) | refine Ext.trans ?_ (Ext.drewN _ _) | refine Ext.trans ?_ (Ext.drew _)))⟩

set_option maxRecDepth 100000 in
set_option maxHeartbeats 1000000 in
theorem below_bad2 {w : World} {ba oa c bb ob e n : Nat} {X Y : Nat → Int} (hz : chk n n X Y = 0) (r : Cur w ba oa bb ob n X Y) {A2 B2 : Option Addr} {n2 d m2 f : Nat} {U V : Nat → Int} {k : Int} (hy : chk n2 m2 U V = k) (hk : k ≠ 0) (ra : Ri w A2 n2 U) (rb : Ri w B2 m2 V) (hn : n2 ≤ maxLen) (hm : m2 ≤ maxLen) :
    Calls Try.prog 30 #[cw ba oa c bb ob e n, cv A2 n2 d B2 m2 f] w fun e' w' => e' = .returned (.tuple #[.bool false, .iface 51 (I k)]) ∧ Ext w w' := by
  have HC := Lib.hid (fun w' (he : Ext w w') => check_ok (c := c) (e := e) hz r w' he)
  have HC2 := Lib.hid (fun w' (he : Ext w w') => check_bad (c := d) (e := f) hy hk ra rb hn hm w' he)
  clear hz hk ra rb hn hm hy r
  go_enter Try.func30, Try.ntmps30
  go_wp2_with (first
    | (go_at_call 17; (with_reducible refine (HC.out _ ((Ext.alloc _ _).trans (Ext.alloc _ _))).mono ?_); rintro e1 w1 ⟨rfl, hb⟩; obtain ⟨hc, hf⟩ := hb.old)
    | (go_at_call 17; (with_reducible refine (HC2.out _ (((Ext.alloc _ _).trans (Ext.alloc _ _)).trans hb)).mono ?_); rintro e1 w1 ⟨rfl, hb1⟩; replace hb := Ext.trans hb hb1; clear hb1; obtain ⟨hc, hf⟩ := hb.old))
  go_ret2
  exact ⟨rfl, (by repeat (first | exact Ext.refl _ | assumption | exact Ext.alloc _ _ | refine Ext.trans ?_ (by assumption) | refine Ext.trans ?_ (Ext.alloc _ _) | refine Ext.trans ?_ (Ext.drewN _ _) | refine Ext.trans ?_ (Ext.drew _)))⟩
end Go.Proofs.Ytdcollchhcjaaaa
