/- Curves: Below by the reference. -/
import Derived.Test.YtdcollchhcjaaaaCrvt
import Derived.Test.YtdcollchhcjaaaaCrvs
namespace Go.Proofs.Ytdcollchhcjaaaa
open Go.RowKit

theorem keep4 {w w' : World} {a b c d : Addr} {u v x y : Value} (e : Ext w w') (h0 : w.cell? a = some u) (h1 : w.cell? b = some v) (h2 : w.cell? c = some x) (h3 : w.cell? d = some y) :
    w'.cell? a = some u ∧ w'.cell? b = some v ∧ w'.cell? c = some x ∧ w'.cell? d = some y :=
  ⟨(Below.cell e (World.block_lt_of_cell? w _ h0)).trans h0, (Below.cell e (World.block_lt_of_cell? w _ h1)).trans h1, (Below.cell e (World.block_lt_of_cell? w _ h2)).trans h2, (Below.cell e (World.block_lt_of_cell? w _ h3)).trans h3⟩

set_option maxRecDepth 100000 in
set_option maxHeartbeats 1000000 in
theorem rbelow_any {w : World} {ba oa c bb ob e n bc oc d bd od f m : Nat} {X Y U V : Nat → Int} (k : Crv n X Y) (l : Crv m U V) (r : Cur w ba oa bb ob n X Y) (q : Cur w bc oc bd od m U V) :
    Calls Try.prog 31 #[cw ba oa c bb ob e n, cw bc oc d bd od f m] w fun e' w' => ∃ v : Bool, e' = .returned (.bool v) ∧ Hid (v = true ↔ blw n X Y m U V) ∧ Ext w w' := by
  have HA := Lib.hid (fun (x : Int) w' (he : Ext w w') => rvalue_any (c := c) (e := e) k (r.ext he) x)
  have HB := Lib.hid (fun (x : Int) w' (he : Ext w w') => rvalue_any (c := d) (e := f) l (q.ext he) x)
  have hn := k.le
  have hm := l.le
  have r1 := r.la
  have r2 := r.lb
  have r3 := q.la
  have r4 := q.lb
  have a2 : ba < w.heap.size + 1 + 1 := by omega
  have a3 : ba ≠ w.heap.size := by omega
  have a4 : ba ≠ w.heap.size + 1 := by omega
  have b2 : bb < w.heap.size + 1 + 1 := by omega
  have b3 : bb ≠ w.heap.size := by omega
  have b4 : bb ≠ w.heap.size + 1 := by omega
  have c2 : bc < w.heap.size + 1 + 1 := by omega
  have c3 : bc ≠ w.heap.size := by omega
  have c4 : bc ≠ w.heap.size + 1 := by omega
  have d2 : bd < w.heap.size + 1 + 1 := by omega
  have d3 : bd ≠ w.heap.size := by omega
  have d4 : bd ≠ w.heap.size + 1 := by omega
  have K := Lib.hid k
  have L := Lib.hid l
  have R := Lib.hid r
  have Q := Lib.hid q
  clear k l r q
  have B0 : B2 ((w.alloc (.cells #[.slice (some ⟨ba, oa, none⟩) n c, .slice (some ⟨bb, ob, none⟩) n e] 24)).alloc (.cells #[.slice (some ⟨bc, oc, none⟩) m d, .slice (some ⟨bd, od, none⟩) m f] 24)) w.heap.size (.slice (some ⟨ba, oa, none⟩) n c) (.slice (some ⟨bb, ob, none⟩) n e) := (B2.new _ _ _ _).ext (Ext.alloc _ _)
  have B1 : B2 ((w.alloc (.cells #[.slice (some ⟨ba, oa, none⟩) n c, .slice (some ⟨bb, ob, none⟩) n e] 24)).alloc (.cells #[.slice (some ⟨bc, oc, none⟩) m d, .slice (some ⟨bd, od, none⟩) m f] 24)) (w.heap.size + 1) (.slice (some ⟨bc, oc, none⟩) m d) (.slice (some ⟨bd, od, none⟩) m f) := by
    have := B2.new (w.alloc (.cells #[.slice (some ⟨ba, oa, none⟩) n c, .slice (some ⟨bb, ob, none⟩) n e] 24)) (.slice (some ⟨bc, oc, none⟩) m d) (.slice (some ⟨bd, od, none⟩) m f) 24
    rwa [show (w.alloc (.cells #[.slice (some ⟨ba, oa, none⟩) n c, .slice (some ⟨bb, ob, none⟩) n e] 24)).heap.size = w.heap.size + 1 by simp] at this
  have S0 := Lib.hid B0
  have S1 := Lib.hid B1
  clear B0 B1
  go_enter Try.func31, Try.ntmps31
  go_wp2_with fail
  go_loopw [5] (fun s wr => Ext ((w.alloc (.cells #[.slice (some ⟨ba, oa, none⟩) n c, .slice (some ⟨bb, ob, none⟩) n e] 24)).alloc (.cells #[.slice (some ⟨bc, oc, none⟩) m d, .slice (some ⟨bd, od, none⟩) m f] 24)) wr ∧ ∃ k : Nat, k ≤ n ∧ s = I k ∧ Hid (∀ i, i < k → (Y i : Rat) ≤ vl m U V (X i))) (fun s _ => n - (intOf s).toNat)
  case atStart => exact ⟨(by repeat (first | exact Ext.refl _ | assumption | exact Ext.alloc _ _ | refine Ext.trans ?_ (by assumption) | refine Ext.trans ?_ (Ext.alloc _ _) | refine Ext.trans ?_ (Ext.drewN _ _) | refine Ext.trans ?_ (Ext.drew _))), 0, Nat.zero_le _, rfl, fun i hi => by omega⟩
  case round =>
    obtain ⟨hb, k, hkn5, rfl, HJ⟩ := hrel
    by_cases hlt : k < n
    · have xk : wr.cell? ⟨ba, oa + k, none⟩ = some (I (X k)) := ((((Ext.alloc _ _).trans (Ext.alloc _ _)).trans hb).old.1 _ _ R.out.la).trans (R.out.ca k hlt)
      have yk0 : wr.cell? ⟨bb, ob + k, none⟩ = some (I (Y k)) := ((((Ext.alloc _ _).trans (Ext.alloc _ _)).trans hb).old.1 _ _ R.out.lb).trans (R.out.cb k hlt)
      have YK := Lib.hid yk0
      have HY := Lib.hid (K.out.bY k hlt)
      have HQ := Lib.hid (HB.out (X k))
      have hlt2 : (k : Int) < (n : Int) := by omega
      obtain ⟨⟨g0, g1⟩, gz⟩ := S0.out.ext hb
      obtain ⟨⟨g2, g3⟩, gy⟩ := S1.out.ext hb
      have HE := Lib.hid hb
      have T0 := Lib.hid (S0.out.ext hb)
      have T1 := Lib.hid (S1.out.ext hb)
      clear yk0
      go_wp2_with fail
      clear hb
      go_region_held3 (fun w' => w'.cell? ⟨w.heap.size + 1, 0, none⟩ = some (.slice (some ⟨bc, oc, none⟩) m d) ∧ w'.cell? ⟨w.heap.size + 1, 1, none⟩ = some (.slice (some ⟨bd, od, none⟩) m f) ∧ w'.cell? ⟨w.heap.size, 0, none⟩ = some (.slice (some ⟨ba, oa, none⟩) n c) ∧ w'.cell? ⟨ba, oa + k, none⟩ = some (I (X k)))
        (go_keep)
        ((go_at_call 37; (with_reducible refine (HQ.out _ (((Ext.alloc _ _).trans (Ext.alloc _ _)).trans (HE.out.trans (by repeat (first | exact Ext.refl _ | assumption | refine Ext.trans ?_ (Ext.drew _) | refine Ext.trans ?_ (by assumption)))))).mono ?_); rintro e1 w1 ⟨num, den, rfl, HV, hb1⟩; have HE2 := Lib.hid (Ext.trans (Ext.drew _) hb1); clear hb1; obtain ⟨⟨v0, v1⟩, vz⟩ := T0.out.ext HE2.out; obtain ⟨⟨v2, v3⟩, vy⟩ := T1.out.ext HE2.out; have v4 := (HE2.out.old.1 _ _ (World.block_lt_of_cell? _ _ xk)).trans xk))
      all_goals
        have hb2 := HE.out.trans HE2.out
        obtain ⟨⟨p0, p1⟩, pz⟩ := T0.out.ext HE2.out
        obtain ⟨⟨p2, p3⟩, py⟩ := T1.out.ext HE2.out
        have yk := (HE2.out.old.1 _ _ (World.block_lt_of_cell? _ _ YK.out)).trans YK.out
        obtain ⟨m1, m2, m3⟩ := prod_bd HY.out ⟨HV.out.pos, HV.out.le⟩
        have HLS := Lib.hid (fun w' => less1_any num den (Y k) w' HV.out.pos (by have := HV.out.lo; omega) (by have := HV.out.hi; omega) (by have := HV.out.le; omega) (by have := HY.out; omega) (by have := HY.out; omega))
        clear m1 m2 m3
        by_cases hh : num < Y k * den
        · have hd : decide (num < Y k * den) = true := decide_eq_true hh
          rw [hd] at HLS
          have HH := Lib.hid hh
          clear hh hd
          go_wp2_with (go_at_call 43; (with_reducible refine (HLS.out _).mono ?_); rintro e1 w2 ⟨rfl, hb3⟩; replace hb2 := Ext.trans hb2 (Ext.trans (by repeat (first | exact Ext.refl _ | refine Ext.trans ?_ (Ext.drew _))) hb3); clear hb3)
          go_ret
          exact ⟨false, rfl, hid_iff (fun hx => by cases hx) (fun hx => ((cmp_lt HV.out).1 HH.out (hx.1 k hlt)).elim), ((Ext.alloc _ _).trans (Ext.alloc _ _)).trans hb2⟩
        · have hd : decide (num < Y k * den) = false := decide_eq_false hh
          rw [hd] at HLS
          have HS : Hid (∀ i, i < k + 1 → (Y i : Rat) ≤ vl m U V (X i)) := fun i hi => by
            by_cases hik : i = k
            · subst hik
              apply Classical.byContradiction; intro hx
              exact hh ((cmp_lt HV.out).2 hx)
            · exact HJ.out i (by omega)
          clear hh hd
          go_wp2_with (go_at_call 43; (with_reducible refine (HLS.out _).mono ?_); rintro e1 w2 ⟨rfl, hb3⟩; replace hb2 := Ext.trans hb2 (Ext.trans (by repeat (first | exact Ext.refl _ | refine Ext.trans ?_ (Ext.drew _))) hb3); clear hb3)
          go_roundw
          case rel => exact ⟨hb2, k + 1, by omega, by go_num, HS⟩
          case measure => simp [intOf]; omega
    · have hkn : k = n := by omega
      subst hkn
      obtain ⟨hc, hf⟩ := hb.old
      go_wp2_with fail
      clear hc hf
      go_loopw [8] (fun s wr => Ext ((w.alloc (.cells #[.slice (some ⟨ba, oa, none⟩) k c, .slice (some ⟨bb, ob, none⟩) k e] 24)).alloc (.cells #[.slice (some ⟨bc, oc, none⟩) m d, .slice (some ⟨bd, od, none⟩) m f] 24)) wr ∧ ∃ j : Nat, j ≤ m ∧ s = I j ∧ Hid (∀ i, i < j → vl k X Y (U i) ≤ (V i : Rat))) (fun s _ => m - (intOf s).toNat)
      case atStart => exact ⟨(by repeat (first | exact Ext.refl _ | assumption | exact Ext.alloc _ _ | refine Ext.trans ?_ (by assumption) | refine Ext.trans ?_ (Ext.alloc _ _) | refine Ext.trans ?_ (Ext.drewN _ _) | refine Ext.trans ?_ (Ext.drew _))), 0, Nat.zero_le _, rfl, fun i hi => by omega⟩
      case round =>
        obtain ⟨hb, j, hkn8, rfl, HI⟩ := hrel
        by_cases hlt : j < m
        · have xk : wr.cell? ⟨bc, oc + j, none⟩ = some (I (U j)) := ((((Ext.alloc _ _).trans (Ext.alloc _ _)).trans hb).old.1 _ _ Q.out.la).trans (Q.out.ca j hlt)
          have yk0 : wr.cell? ⟨bd, od + j, none⟩ = some (I (V j)) := ((((Ext.alloc _ _).trans (Ext.alloc _ _)).trans hb).old.1 _ _ Q.out.lb).trans (Q.out.cb j hlt)
          have YK := Lib.hid yk0
          have HY := Lib.hid (L.out.bY j hlt)
          have HQ := Lib.hid (HA.out (U j))
          have hlt2 : (j : Int) < (m : Int) := by omega
          obtain ⟨⟨g0, g1⟩, gz⟩ := S0.out.ext hb
          obtain ⟨⟨g2, g3⟩, gy⟩ := S1.out.ext hb
          have HE := Lib.hid hb
          have T0 := Lib.hid (S0.out.ext hb)
          have T1 := Lib.hid (S1.out.ext hb)
          clear yk0
          go_wp2_with fail
          clear hb
          go_region_held3 (fun w' => w'.cell? ⟨w.heap.size, 0, none⟩ = some (.slice (some ⟨ba, oa, none⟩) k c) ∧ w'.cell? ⟨w.heap.size, 1, none⟩ = some (.slice (some ⟨bb, ob, none⟩) k e) ∧ w'.cell? ⟨w.heap.size + 1, 0, none⟩ = some (.slice (some ⟨bc, oc, none⟩) m d) ∧ w'.cell? ⟨bc, oc + j, none⟩ = some (I (U j)))
            (go_keep)
            ((go_at_call 37; (with_reducible refine (HQ.out _ (((Ext.alloc _ _).trans (Ext.alloc _ _)).trans (HE.out.trans (by repeat (first | exact Ext.refl _ | assumption | refine Ext.trans ?_ (Ext.drew _) | refine Ext.trans ?_ (by assumption)))))).mono ?_); rintro e1 w1 ⟨num, den, rfl, HV, hb1⟩; have HE2 := Lib.hid (Ext.trans (Ext.drew _) hb1); clear hb1; obtain ⟨⟨v0, v1⟩, vz⟩ := T0.out.ext HE2.out; obtain ⟨⟨v2, v3⟩, vy⟩ := T1.out.ext HE2.out; have v4 := (HE2.out.old.1 _ _ (World.block_lt_of_cell? _ _ xk)).trans xk))
          all_goals
            have hb2 := HE.out.trans HE2.out
            obtain ⟨⟨p0, p1⟩, pz⟩ := T0.out.ext HE2.out
            obtain ⟨⟨p2, p3⟩, py⟩ := T1.out.ext HE2.out
            have yk := (HE2.out.old.1 _ _ (World.block_lt_of_cell? _ _ YK.out)).trans YK.out
            obtain ⟨m1, m2, m3⟩ := prod_bd HY.out ⟨HV.out.pos, HV.out.le⟩
            have HLS := Lib.hid (fun w' => less2_any num den (V j) w' HV.out.pos (by have := HV.out.lo; omega) (by have := HV.out.hi; omega) (by have := HV.out.le; omega) (by have := HY.out; omega) (by have := HY.out; omega))
            clear m1 m2 m3
            by_cases hh : V j * den < num
            · have hd : decide (V j * den < num) = true := decide_eq_true hh
              rw [hd] at HLS
              have HH := Lib.hid hh
              clear hh hd
              go_wp2_with (go_at_call 43; (with_reducible refine (HLS.out _).mono ?_); rintro e1 w2 ⟨rfl, hb3⟩; replace hb2 := Ext.trans hb2 (Ext.trans (by repeat (first | exact Ext.refl _ | refine Ext.trans ?_ (Ext.drew _))) hb3); clear hb3)
              go_ret
              exact ⟨false, rfl, hid_iff (fun hx => by cases hx) (fun hx => ((cmp_gt HV.out).1 HH.out (hx.2 j hlt)).elim), ((Ext.alloc _ _).trans (Ext.alloc _ _)).trans hb2⟩
            · have hd : decide (V j * den < num) = false := decide_eq_false hh
              rw [hd] at HLS
              have HS : Hid (∀ i, i < j + 1 → vl k X Y (U i) ≤ (V i : Rat)) := fun i hi => by
                by_cases hik : i = j
                · subst hik
                  apply Classical.byContradiction; intro hx
                  exact hh ((cmp_gt HV.out).2 hx)
                · exact HI.out i (by omega)
              clear hh hd
              go_wp2_with (go_at_call 43; (with_reducible refine (HLS.out _).mono ?_); rintro e1 w2 ⟨rfl, hb3⟩; replace hb2 := Ext.trans hb2 (Ext.trans (by repeat (first | exact Ext.refl _ | refine Ext.trans ?_ (Ext.drew _))) hb3); clear hb3)
              go_roundw
              case rel => exact ⟨hb2, j + 1, by omega, by go_num, HS⟩
              case measure => simp [intOf]; omega
        · have hkn : j = m := by omega
          subst hkn
          obtain ⟨hc, hf⟩ := hb.old
          go_wp2_with fail
          go_ret
          exact ⟨true, rfl, hid_iff (fun _ => ⟨HJ.out, HI.out⟩) (fun _ => rfl), (by repeat (first | exact Ext.refl _ | assumption | exact Ext.alloc _ _ | refine Ext.trans ?_ (by assumption) | refine Ext.trans ?_ (Ext.alloc _ _) | refine Ext.trans ?_ (Ext.drewN _ _) | refine Ext.trans ?_ (Ext.drew _)))⟩
end Go.Proofs.Ytdcollchhcjaaaa
