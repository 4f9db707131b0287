/- Programs of diagrams: the small functions of the code. -/
import Derived.Test.YtkocmdpfknoiaaaGreatDoorKxb
namespace Go.Proofs.YtkocmdpfknoiaaaGreatDoor
open Go Go.RowKit

set_option maxRecDepth 100000 in
set_option maxHeartbeats 1000000 in
theorem cshift_any (n k : Int) (w : World) (h1 : -2147483648 < n) (h2 : n < 2147483648) (h3 : -62 ≤ k) (h4 : k ≤ 32) : Calls Tryz.prog 82 #[I n, I k] w fun e w' => e = .returned (I (shI n k)) ∧ Ext w w' := by
  by_cases hk : k < 0
  · have HV := Lib.hid (show shI n k = n / 2 ^ (-k).toNat by unfold shI; rw [if_pos hk])
    have hw : IntKind.i64.wrap (-k) = -k := IntWalk.i64_in _ (by omega)
    rw [HV.out]
    clear HV
    go_enter Tryz.func82, Tryz.ntmps82
    go_wp2
    go_ret
    exact ⟨rfl, Ext.refl _⟩
  · have HV := Lib.hid (show shI n k = n * 2 ^ k.toNat by unfold shI; rw [if_neg hk])
    have hb := shI_bd h1 h2 h4
    rw [HV.out] at hb
    have hw : wrap64 (n * 2 ^ k.toNat) = n * 2 ^ k.toNat := wrap_id (by omega) (by omega)
    rw [HV.out]
    clear HV hb
    have HW := Lib.hid hw
    clear hw
    go_enter Tryz.func82, Tryz.ntmps82
    go_wp2
    go_ret
    exact ⟨ret_int HW.out, Ext.refl _⟩
set_option maxHeartbeats 400000 in
theorem isScale_any (x : Int) (w : World) : Calls Tryz.prog 81 #[I x] w fun e w' => e = .returned (.bool (scB x)) ∧ Ext w w' := by
  by_cases h1 : 0 ≤ x
  · have H := Lib.hid (show scB x = decide (x ≤ 30) by simp [scB, h1])
    rw [H.out]
    go_enter Tryz.func81, Tryz.ntmps81
    go_wp2
    go_ret
    exact ⟨rfl, Ext.refl _⟩
  · have H := Lib.hid (show scB x = false by simp [scB, h1])
    rw [H.out]
    go_enter Tryz.func81, Tryz.ntmps81
    go_wp2
    go_ret
    exact ⟨rfl, Ext.refl _⟩
set_option maxHeartbeats 400000 in
theorem isShiftX_any (x : Int) (w : World) : Calls Tryz.prog 92 #[I x] w fun e w' => e = .returned (.bool (shB x)) ∧ Ext w w' := by
  by_cases h1 : -62 ≤ x
  · have H := Lib.hid (show shB x = decide (x ≤ 30) by simp [shB, h1])
    rw [H.out]
    go_enter Tryz.func92, Tryz.ntmps92
    go_wp2
    go_ret
    exact ⟨rfl, Ext.refl _⟩
  · have H := Lib.hid (show shB x = false by simp [shB, h1])
    rw [H.out]
    go_enter Tryz.func92, Tryz.ntmps92
    go_wp2
    go_ret
    exact ⟨rfl, Ext.refl _⟩
set_option maxRecDepth 100000 in
set_option maxHeartbeats 1000000 in
theorem areScales_any {w : World} {A : Option Addr} {n c : Nat} {f : Nat → Int} (ra : Ri w A n f) (hn : n ≤ maxLen) :
    Calls Tryz.prog 85 #[.slice A n c] w fun e w' => e = .returned (.bool (allN n (fun i => scB (f i)))) ∧ Ext w w' := by
  unfold maxLen at hn
  have HR := Lib.hid ra; clear ra
  go_enter Tryz.func85, Tryz.ntmps85
  go_wp2_with fail
  go_loopw [7] (fun s wr => ∃ j : Nat, j ≤ n ∧ s = I j ∧ Ext w wr ∧ Hid (∀ i, i < j → scB (f i) = true)) (fun s _ => n - (intOf s).toNat)
  case atStart => exact ⟨0, Nat.zero_le _, rfl, Ext.refl _, fun i hi => by omega⟩
  case round =>
    obtain ⟨j, hj, rfl, hb, HJ⟩ := hrel
    by_cases hlt : j < n
    · obtain ⟨b, o, ea, hbl, hc⟩ := HR.out.ext hb (by omega)
      subst ea
      have xj := hc j hlt
      have hlt' : (j : Int) < (n : Int) := by omega
      have HX : Hid (∀ w', Calls Tryz.prog 81 #[I (f j)] w' fun e w'' => e = .returned (.bool (scB (f j))) ∧ Ext w' w'') := isScale_any (f j)
      clear hc
      cases hw : scB (f j)
      · rw [hw] at HX
        have HV := Lib.hid (show allN n (fun i => scB (f i)) = false from allN_false.2 ⟨j, hlt, hw⟩)
        clear hw
        go_wp2_with (go_at_call 81; (with_reducible refine (HX.out _).mono ?_); rintro e w1 ⟨rfl, hb1⟩; replace hb := hb.trans hb1; clear hb1)
        go_ret
        exact ⟨by rw [HV.out]; rfl, hb⟩
      · rw [hw] at HX
        have HN : Hid (∀ i, i < j + 1 → scB (f i) = true) := fun i hi => by
          by_cases e : i = j
          · subst e; exact hw
          · exact HJ.out i (by omega)
        clear hw
        go_wp2_with (go_at_call 81; (with_reducible refine (HX.out _).mono ?_); rintro e w1 ⟨rfl, hb1⟩; replace hb := hb.trans hb1; clear hb1)
        go_roundw
        case rel => exact ⟨j + 1, by omega, by go_num, hb, HN⟩
        case measure => simp [intOf]; omega
    · obtain rfl : j = n := by omega
      have HV := Lib.hid (show allN j (fun i => scB (f i)) = true from allN_iff.2 HJ.out)
      go_wp2_with fail
      go_ret
      exact ⟨by rw [HV.out]; rfl, hb⟩
/-! ### Raw -/
theorem rawE_bad {n e f : Int} (h : rawB n e f = false) : rawE n e f = 3 ∧ rawN n e f = 0 := by
  have : rawE n e f = 3 := by unfold rawE; rw [if_pos h]
  exact ⟨this, by unfold rawN; rw [this, if_neg (by omega)]⟩
theorem rawE_ok {n e f : Int} (h : rawB n e f = true) (h2 : wdB (rawV n e f) = true) : rawE n e f = 0 ∧ rawN n e f = rawV n e f := by
  have : rawE n e f = 0 := by unfold rawE; rw [if_neg (by rw [h]; decide), if_pos h2]
  exact ⟨this, by unfold rawN; rw [this, if_pos rfl]⟩
theorem rawE_over {n e f : Int} (h : rawB n e f = true) (h2 : wdB (rawV n e f) = false) : rawE n e f = 13 ∧ rawN n e f = 0 := by
  have : rawE n e f = 13 := by unfold rawE; rw [if_neg (by rw [h]; decide), if_neg (by rw [h2]; decide)]
  exact ⟨this, by unfold rawN; rw [this, if_neg (by omega)]⟩
def RawR (n e f : Int) (w : World) (en : Ending) (w' : World) : Prop := en = .returned (.tuple #[I (rawN n e f), errv (rawE n e f)]) ∧ Ext w w'
set_option maxRecDepth 100000 in
set_option maxHeartbeats 1000000 in
theorem Raw_bad (n e f : Int) (w : World) (h : rawB n e f = false) : Calls Tryz.prog 34 #[.agg #[I n, I e], I f] w fun en w' => en = .returned (.tuple #[I 0, .iface 94 (I 3)]) ∧ Ext w w' := by
  have HS := Lib.hid (isScale_any f)
  by_cases a : n ≤ -2147483648
  · clear h
    go_enter Tryz.func34, Tryz.ntmps34
    go_wp2_with fail
    go_ret2
    exact ⟨rfl, Ext.alloc _ _⟩
  by_cases b : 2147483648 ≤ n
  · clear h
    go_enter Tryz.func34, Tryz.ntmps34
    go_wp2_with fail
    go_ret2
    exact ⟨rfl, Ext.alloc _ _⟩
  by_cases c : e < -62
  · clear h
    go_enter Tryz.func34, Tryz.ntmps34
    go_wp2_with fail
    go_ret2
    exact ⟨rfl, Ext.alloc _ _⟩
  by_cases d : 30 < e
  · clear h
    go_enter Tryz.func34, Tryz.ntmps34
    go_wp2_with fail
    go_ret2
    exact ⟨rfl, Ext.alloc _ _⟩
  have hf : scB f = false := by
    cases q : scB f
    · rfl
    · have := scB_iff.1 q
      rw [rawB_iff.2 ⟨by omega, by omega, by omega, by omega, this.1, this.2⟩] at h; cases h
  rw [hf] at HS
  clear h hf
  go_enter Tryz.func34, Tryz.ntmps34
  go_wp2_with (go_at_call 81; (with_reducible refine (HS.out _).mono ?_); rintro e1 w1 ⟨rfl, hb1⟩)
  go_ret2
  exact ⟨rfl, (Ext.alloc _ _).trans hb1⟩
set_option maxRecDepth 100000 in
set_option maxHeartbeats 1000000 in
theorem Raw_in (n e f : Int) (w : World) (h : rawB n e f = true) : Calls Tryz.prog 34 #[.agg #[I n, I e], I f] w (RawR n e f w) := by
  obtain ⟨a, b, c, d, f1, f2⟩ := rawB_iff.1 h
  have HS := Lib.hid (isScale_any f)
  rw [scB_iff.2 ⟨f1, f2⟩] at HS
  have hw1 : IntKind.i64.wrap (e + f) = e + f := IntWalk.i64_in _ (by omega)
  obtain ⟨m, hm⟩ : ∃ m, min (e + f) 32 = m := ⟨_, rfl⟩
  obtain ⟨v, hv⟩ : ∃ v, shI n m = v := ⟨_, rfl⟩
  have HC := Lib.hid (fun w' => cshift_any n m w' (by omega) (by omega) (by omega) (by omega))
  have hq := shI_min n (e + f)
  have hbd := shI_bd a b (k := m) (by omega)
  rw [hm, hv] at hq
  rw [hv] at hbd HC
  have HOK : Hid (wdB v = true → rawN n e f = v ∧ errv (rawE n e f) = .nilIface) := fun hh => by
    have := rawE_ok h (by unfold rawV; rw [← hq.1]; exact hh)
    rw [this.1, this.2]; exact ⟨(hq.2 (by rw [← hq.1]; exact hh)).symm, rfl⟩
  have HOV : Hid (wdB v = false → rawN n e f = 0 ∧ errv (rawE n e f) = .iface 94 (I 13)) := fun hh => by
    have := rawE_over h (by unfold rawV; rw [← hq.1]; exact hh)
    rw [this.1, this.2]; exact ⟨rfl, rfl⟩
  clear hq hv h
  have HB : Hid (∀ w', Ext (w.alloc (.cells #[I n, I e] 49)) w' → w'.cell? ⟨w.heap.size, 0, none⟩ = some (I n) ∧ w'.cell? ⟨w.heap.size, 1, none⟩ = some (I e)) := fun w' x =>
    ⟨(x.old.1 _ _ (by simp)).trans (by go_simp), (x.old.1 _ _ (by simp)).trans (by go_simp)⟩
  have hc1 : ¬ n ≤ -2147483648 := by omega
  have hc2 : ¬ 2147483648 ≤ n := by omega
  have hc3 : ¬ e < -62 := by omega
  have hc4 : ¬ 30 < e := by omega
  unfold RawR
  by_cases hlo : v < -2147483648
  · obtain ⟨q1, q2⟩ := HOV.out (by cases q : wdB v with | false => rfl | true => have := wdB_iff.1 q; omega)
    rw [q1, q2]; clear q1 q2
    by_cases hmin : e + f ≤ 32
    · obtain rfl : e + f = m := by omega
      go_enter Tryz.func34, Tryz.ntmps34
      go_wp2_with (first
        | (go_at_call 81; (with_reducible refine (HS.out _).mono ?_); rintro e1 w1 ⟨rfl, hb1⟩; obtain ⟨c0, c1⟩ := HB.out _ hb1)
        | (go_at_call 82; (with_reducible refine (HC.out _).mono ?_); rintro e1 w2 ⟨rfl, hb2⟩))
      go_ret2
      exact ⟨rfl, ((Ext.alloc _ _).trans hb1).trans hb2⟩
    · obtain rfl : 32 = m := by omega
      go_enter Tryz.func34, Tryz.ntmps34
      go_wp2_with (first
        | (go_at_call 81; (with_reducible refine (HS.out _).mono ?_); rintro e1 w1 ⟨rfl, hb1⟩; obtain ⟨c0, c1⟩ := HB.out _ hb1)
        | (go_at_call 82; (with_reducible refine (HC.out _).mono ?_); rintro e1 w2 ⟨rfl, hb2⟩))
      go_ret2
      exact ⟨rfl, ((Ext.alloc _ _).trans hb1).trans hb2⟩
  by_cases hhi : 2147483647 < v
  · obtain ⟨q1, q2⟩ := HOV.out (by cases q : wdB v with | false => rfl | true => have := wdB_iff.1 q; omega)
    rw [q1, q2]; clear q1 q2
    by_cases hmin : e + f ≤ 32
    · obtain rfl : e + f = m := by omega
      go_enter Tryz.func34, Tryz.ntmps34
      go_wp2_with (first
        | (go_at_call 81; (with_reducible refine (HS.out _).mono ?_); rintro e1 w1 ⟨rfl, hb1⟩; obtain ⟨c0, c1⟩ := HB.out _ hb1)
        | (go_at_call 82; (with_reducible refine (HC.out _).mono ?_); rintro e1 w2 ⟨rfl, hb2⟩))
      go_ret2
      exact ⟨rfl, ((Ext.alloc _ _).trans hb1).trans hb2⟩
    · obtain rfl : 32 = m := by omega
      go_enter Tryz.func34, Tryz.ntmps34
      go_wp2_with (first
        | (go_at_call 81; (with_reducible refine (HS.out _).mono ?_); rintro e1 w1 ⟨rfl, hb1⟩; obtain ⟨c0, c1⟩ := HB.out _ hb1)
        | (go_at_call 82; (with_reducible refine (HC.out _).mono ?_); rintro e1 w2 ⟨rfl, hb2⟩))
      go_ret2
      exact ⟨rfl, ((Ext.alloc _ _).trans hb1).trans hb2⟩
  · obtain ⟨q1, q2⟩ := HOK.out (wdB_iff.2 ⟨by omega, by omega⟩)
    rw [q1, q2]; clear q1 q2
    by_cases hmin : e + f ≤ 32
    · obtain rfl : e + f = m := by omega
      go_enter Tryz.func34, Tryz.ntmps34
      go_wp2_with (first
        | (go_at_call 81; (with_reducible refine (HS.out _).mono ?_); rintro e1 w1 ⟨rfl, hb1⟩; obtain ⟨c0, c1⟩ := HB.out _ hb1)
        | (go_at_call 82; (with_reducible refine (HC.out _).mono ?_); rintro e1 w2 ⟨rfl, hb2⟩))
      go_ret2
      exact ⟨rfl, ((Ext.alloc _ _).trans hb1).trans hb2⟩
    · obtain rfl : 32 = m := by omega
      go_enter Tryz.func34, Tryz.ntmps34
      go_wp2_with (first
        | (go_at_call 81; (with_reducible refine (HS.out _).mono ?_); rintro e1 w1 ⟨rfl, hb1⟩; obtain ⟨c0, c1⟩ := HB.out _ hb1)
        | (go_at_call 82; (with_reducible refine (HC.out _).mono ?_); rintro e1 w2 ⟨rfl, hb2⟩))
      go_ret2
      exact ⟨rfl, ((Ext.alloc _ _).trans hb1).trans hb2⟩
theorem Raw_any (n e f : Int) (w : World) : Calls Tryz.prog 34 #[.agg #[I n, I e], I f] w (RawR n e f w) := by
  cases h : rawB n e f
  · refine (Raw_bad n e f w h).mono fun en w' hh => ⟨?_, hh.2⟩
    rw [(rawE_bad h).1, (rawE_bad h).2]; exact hh.1
  · exact Raw_in n e f w h
end Go.Proofs.YtkocmdpfknoiaaaGreatDoor
