/- Equal lists of numbers; what the laws of package exact begin with. -/
import Derived.Test.YtcdkkohklhmpgaaGreatDoorEyk
import Derived.Test.YtcdkkohklhmpgaaGreatDoorDgq
import Derived.Test.YtcdkkohklhmpgaaGreatDoorMref
namespace Go.Proofs.YtcdkkohklhmpgaaGreatDoor
open Go Go.RowKit

set_option maxRecDepth 100000 in
set_option maxHeartbeats 1000000 in
theorem dsame_true {w : World} {d : DV} {A B : Option Addr} {ca cb : Nat} (ha : Rd w A (len d.m) (dg d.m)) (hb' : Rd w B (len d.m) (dg d.m)) (hl : len d.m ≤ 1073741824) :
    Calls Tryz.prog 91 #[dv d.neg A (len d.m) ca d.den, dv d.neg B (len d.m) cb d.den] w fun e w' => e = .returned (.bool true) ∧ Ext w w' := by
  obtain ⟨X0, X1, XE⟩ : Bx ((w.alloc (.cells #[.bool d.neg, .slice A (len d.m) ca, I d.den] 24)).alloc (.cells #[.bool d.neg, .slice B (len d.m) cb, I d.den] 24)) w.heap.size (.bool d.neg) (.slice A (len d.m) ca) (I d.den) ∧
      Bx ((w.alloc (.cells #[.bool d.neg, .slice A (len d.m) ca, I d.den] 24)).alloc (.cells #[.bool d.neg, .slice B (len d.m) cb, I d.den] 24)) (w.heap.size + 1) (.bool d.neg) (.slice B (len d.m) cb) (I d.den) ∧
      Ext w ((w.alloc (.cells #[.bool d.neg, .slice A (len d.m) ca, I d.den] 24)).alloc (.cells #[.bool d.neg, .slice B (len d.m) cb, I d.den] 24)) := two_bx (Ext.refl _)
  have HX0 := Lib.hid X0; have HX1 := Lib.hid X1; have HXE := Lib.hid XE
  clear X0 X1 XE
  have HA := Lib.hid ha; have HB := Lib.hid hb'; clear ha hb'
  generalize d.neg = neg at *
  generalize (d.den : Int) = den at *
  generalize len d.m = L at *
  go_enter Tryz.func91, Tryz.ntmps91
  go_wp2
  go_loopw [30] (fun s wr => Hid (Ext ((w.alloc (.cells #[.bool neg, .slice A L ca, I den] 24)).alloc (.cells #[.bool neg, .slice B L cb, I den] 24)) wr) ∧ ∃ k : Nat, k ≤ L ∧ s = I k) (fun s _ => L - (intOf s).toNat)
  case atStart => exact ⟨Ext.refl _, 0, Nat.zero_le _, rfl⟩
  case round =>
    obtain ⟨hX, k, hk, rfl⟩ := hrel
    obtain ⟨k0, k1, k2, k3, k4, k5⟩ := keepB HX0.out HX1.out hX.out
    by_cases hlt : k < L
    · obtain ⟨b1, o1, e1, hb1, c1⟩ := (HA.out.ext (HXE.out.trans hX.out)).at_ hlt
      obtain ⟨b2, o2, e2, hb2, c2⟩ := (HB.out.ext (HXE.out.trans hX.out)).at_ hlt
      rw [e1] at k1
      rw [e2] at k4
      have i1 : (0 : Int) ≤ (k : Int) := by omega
      have i2 : (k : Int) < (L : Int) := by omega
      clear e1 e2
      go_wp2
      go_quiet (fail)
      go_wp2
      go_roundw
      case rel => exact ⟨hX.out.trans (Ext.drewN _ _), k + 1, by omega, by go_num⟩
      case measure => simp [intOf]; omega
    · obtain rfl : k = L := by omega
      go_wp2
      go_ret
      exact ⟨rfl, HXE.out.trans hX.out⟩


/-! ### Lists of equal numbers -/
set_option maxRecDepth 100000 in
set_option maxHeartbeats 1000000 in
theorem rsameL_any {w : World} {A B : Option Addr} {n ca cb : Nat} {R R' : Nat → RN} {V : Nat → DV} (a : Ln w A n R V) (b : Ln w B n R' V) (hn : n ≤ 100000) :
    Calls Tryz.prog 34 #[.slice A n ca, .slice B n cb] w fun e w' => e = .returned (.bool true) ∧ Ext w w' := by
  have HA := Lib.hid a; have HB := Lib.hid b; clear a b
  have g0 : ((n : Int) != (n : Int)) = false := by simp
  go_enter Tryz.func34, Tryz.ntmps34
  go_wp2_with fail
  go_loopw [13] (fun s wr => ∃ j : Nat, j ≤ n ∧ s = I j ∧ Ext w wr) (fun s _ => n - (intOf s).toNat)
  case atStart => exact ⟨0, Nat.zero_le _, rfl, Ext.refl _⟩
  case round =>
    obtain ⟨j, hj, rfl, hb⟩ := hrel
    by_cases hlt : j < n
    · obtain ⟨b1, o1, h1, hb1, hc1⟩ := HA.out.rn.ext hb (by omega)
      obtain ⟨b2, o2, h2, hb2, hc2⟩ := HB.out.rn.ext hb (by omega)
      obtain ⟨x0, x1, x2⟩ := hc1 j hlt
      obtain ⟨y0, y1, y2⟩ := hc2 j hlt
      have cn1 := (HA.out.el j hlt).ext hb
      have cn2 := (HB.out.el j hlt).ext hb
      have HSM : Hid (∀ w', Ext wr w' → Calls Tryz.prog 91 #[(R j).v, (R' j).v] w' (fun e w'' => e = .returned (.bool true) ∧ Ext w' w'')) := fun w' x => by
        have := dsame_true (cn1.ext x).rd (cn2.ext x).rd (ca := (R j).c) (cb := (R' j).c) (by have := cn1.lim; omega)
        show Calls _ _ #[dv (R j).neg (R j).A (R j).n (R j).c (R j).den, dv (R' j).neg (R' j).A (R' j).n (R' j).c (R' j).den] _ _
        rw [cn1.neg, cn1.n, cn1.den, cn2.neg, cn2.n, cn2.den]
        exact this
      have HBB := Lib.hid hb
      have hlt' : (j : Int) < (n : Int) := by omega
      have hb : Ext wr wr := Ext.refl _
      clear hc1 hc2 cn1 cn2
      generalize R j = r1 at *
      generalize R' j = r2 at *
      go_upto_region 6 with fail
      have hL := fun (x : Later _) => (Ext.trans hb x.ext).old.1
      refine wp_region_later (by kernel_rfl) (by kernel_rfl) ?_
      repeat (go_big_quiet_step (((go_at_call 91; exact Calls.later (HSM.out _ (Later.ext _))))))
      refine wpQuiet_nil ?_
      intro w2 hw2
      replace hb := Ext.trans hb (Later.of hw2)
      clear hw2 hL
      obtain ⟨hc, hf⟩ := hb.old
      have HB2 := Lib.hid (HBB.out.trans hb)
      clear hb
      go_wp2_with fail
      (try rw [← h1])
      (try rw [← h2])
      go_roundw
      case rel => exact ⟨j + 1, by omega, by go_num, HB2.out⟩
      case measure => simp [intOf]; omega
    · obtain rfl : j = n := by omega
      go_wp2_with fail
      go_ret
      exact ⟨rfl, hb⟩
/-! ### light, lean -/
def litX (D : Dia) (n : Nat) (m : Nat → Nat) : Bool := litB D && (decide (n ≤ 300) && (decide (n * D.nb ≤ 3000) && allN n fun t => decide (m t ≤ 40)))
def leaB (n : Nat) (L : Nat → Nat) (E : Nat → Int) : Bool := allN n (fun i => decide (L i ≤ 300) && decide (E i ≤ 20000)) && decide (n ≤ 100)
theorem lit_x {D : Dia} {n : Nat} {m : Nat → Nat} (h : litX D n m = true) : Lit D ∧ n ≤ 300 ∧ n * D.nb ≤ 3000 ∧ ∀ t, t < n → m t ≤ 40 := by
  unfold litX at h
  simp only [Bool.and_eq_true, decide_eq_true_eq] at h
  exact ⟨lit_of h.1, h.2.1, h.2.2.1, fun t ht => by have := allN_iff.1 h.2.2.2 t ht; simpa using this⟩
set_option maxRecDepth 100000 in
set_option maxHeartbeats 1000000 in
theorem lightX_any {w : World} {D : Dia} {p : Pl} {Al : Option Addr} {n cl : Nat} {AA : Nat → Option Addr} {m c : Nat → Nat} {IN : Nat → Nat → Int} (d : Dm w D p) (l : Lli w Al n AA m c IN) (hn : n ≤ maxLen) :
    Calls Tryz.prog 25 #[dgv D p, .slice Al n cl] w fun e w' => e = .returned (.bool (litX D n m)) ∧ Ext w w' := by
  unfold maxLen at hn
  obtain ⟨W1, hW1⟩ : ∃ W1, W1 = w.alloc (.cells #[.slice p.AI D.ni p.cI, .slice p.AB D.nb p.cB, .slice p.AO D.no p.cO] 48) := ⟨_, rfl⟩
  have hE : Ext w W1 := by rw [hW1]; exact Ext.alloc _ _
  have hbd : Bd W1 w.heap.size D p := by rw [hW1]; exact Bd.new _ _ _ _
  have HLT : Hid (∀ w', Ext W1 w' → Calls Tryz.prog 36 #[dgv D p] w' fun e w'' => e = .returned (.bool (litB D)) ∧ Ext w' w'') := fun w' e => light_any (d.ext (hE.trans e))
  have HB := Lib.hid hbd; have HE := Lib.hid hE; have HL := Lib.hid (l.ext hE)
  obtain ⟨c0, c1, c2⟩ := hbd
  clear d l hE
  cases hlit : litB D with
  | false =>
    have HV : Hid (litX D n m = false) := by show _ = _; unfold litX; rw [hlit]; rfl
    rw [hlit] at HLT
    rw [HV.out]
    clear hlit
    go_enter Tryz.func25, Tryz.ntmps25
    go_upto_region 1 with fail
    rw [← hW1]; clear hW1
    go_wp2_with (go_at_call 36; (with_reducible refine (HLT.out _ (Ext.refl _)).mono ?_); rintro e1 w1 ⟨rfl, h1⟩; have HX1 := Lib.hid h1; obtain ⟨d0, d1, d2⟩ := HB.out.ext h1; clear h1)
    go_ret
    exact ⟨rfl, HE.out.trans HX1.out⟩
  | true =>
    have hl80 := (lit_of hlit).nb
    have HX0 : Hid (litX D n m = (decide (n ≤ 300) && (decide (n * D.nb ≤ 3000) && allN n fun t => decide (m t ≤ 40)))) := by show _ = _; unfold litX; rw [hlit]; rfl
    rw [hlit] at HLT
    clear hlit
    by_cases h3 : 300 < n
    · have HV : Hid (litX D n m = false) := by show _ = _; rw [HX0.out, decide_eq_false (by omega)]; rfl
      rw [HV.out]
      have h3' : (300 : Int) < (n : Int) := by omega
      clear h3
      go_enter Tryz.func25, Tryz.ntmps25
      go_upto_region 1 with fail
      rw [← hW1]; clear hW1
      go_wp2_with (go_at_call 36; (with_reducible refine (HLT.out _ (Ext.refl _)).mono ?_); rintro e1 w1 ⟨rfl, h1⟩; have HX1 := Lib.hid h1; obtain ⟨d0, d1, d2⟩ := HB.out.ext h1; clear h1)
      go_ret
      exact ⟨rfl, HE.out.trans HX1.out⟩
    · have hmul : n * D.nb ≤ 300 * 80 := Nat.mul_le_mul (by omega) hl80
      obtain ⟨z, hz⟩ : ∃ z, n * D.nb = z := ⟨_, rfl⟩
      rw [hz] at hmul HX0
      have hw : IntKind.i64.wrap ((n : Int) * (D.nb : Int)) = (z : Int) := by rw [← hz, ← Int.natCast_mul]; exact IntWalk.i64_in _ (by rw [hz]; omega)
      have h3' : ¬ (300 : Int) < (n : Int) := by omega
      by_cases h4 : 3000 < z
      · have HV : Hid (litX D n m = false) := by show _ = _; rw [HX0.out, decide_eq_false (show ¬ z ≤ 3000 by omega)]; simp
        rw [HV.out]
        have h4' : (3000 : Int) < (z : Int) := by omega
        clear h3 h4 hz
        go_enter Tryz.func25, Tryz.ntmps25
        go_upto_region 1 with fail
        rw [← hW1]; clear hW1
        go_wp2_with (go_at_call 36; (with_reducible refine (HLT.out _ (Ext.refl _)).mono ?_); rintro e1 w1 ⟨rfl, h1⟩; have HX1 := Lib.hid h1; obtain ⟨d0, d1, d2⟩ := HB.out.ext h1; clear h1)
        go_ret
        exact ⟨rfl, HE.out.trans HX1.out⟩
      · have HX2 : Hid (litX D n m = allN n fun t => decide (m t ≤ 40)) := by show _ = _; rw [HX0.out, decide_eq_true (show n ≤ 300 by omega), decide_eq_true (show z ≤ 3000 by omega)]; rfl
        have h4' : ¬ (3000 : Int) < (z : Int) := by omega
        have hn3 : n ≤ 300 := by omega
        rw [HX2.out]
        clear h3 h4 hz HX0
        go_enter Tryz.func25, Tryz.ntmps25
        go_upto_region 1 with fail
        rw [← hW1]; clear hW1
        go_wp2_with (go_at_call 36; (with_reducible refine (HLT.out _ (Ext.refl _)).mono ?_); rintro e1 w1 ⟨rfl, h1⟩; have HX1 := Lib.hid h1; obtain ⟨d0, d1, d2⟩ := HB.out.ext h1; clear h1)
        clear c0 c1 c2 d0 d1 d2
        go_loopw [26] (fun s wr => ∃ t : Nat, t ≤ n ∧ s = I t ∧ Hid (Ext W1 wr) ∧ Hid (∀ i, i < t → m i ≤ 40)) (fun s _ => n - (intOf s).toNat)
        case atStart => exact ⟨0, Nat.zero_le _, rfl, HX1.out, fun i hi => absurd hi (by omega)⟩
        case round =>
          obtain ⟨t, ht, rfl, HX, HG⟩ := hrel
          by_cases hlt : t < n
          · obtain ⟨b, o, hbl, hbb, hc⟩ := (HL.out.ext HX.out).cells (by omega)
            have xl := hc t hlt
            have hml := (HL.out.rows t hlt).2
            unfold maxLen at hml
            have hlt' : (t : Int) < (n : Int) := by omega
            clear hc
            by_cases hq : m t ≤ 40
            · have HG2 : Hid (∀ i, i < t + 1 → m i ≤ 40) := fun i hi => by
                by_cases h : i = t
                · subst h; exact hq
                · exact HG.out i (by omega)
              have hq' : ¬ (40 : Int) < ((m t : Nat) : Int) := by omega
              clear hq
              generalize m t = mt at *
              go_wp2_with fail
              (try rw [← hbl])
              go_roundw
              case rel => exact ⟨t + 1, by omega, by go_num, HX.out, HG2⟩
              case measure => simp [intOf]; omega
            · have HC : Hid ((allN n fun t => decide (m t ≤ 40)) = false) := allN_false.2 ⟨t, hlt, by simpa using hq⟩
              have hq' : (40 : Int) < ((m t : Nat) : Int) := by omega
              clear hq
              generalize m t = mt at *
              go_wp2_with fail
              go_ret
              exact ⟨by rw [HC.out]; rfl, HE.out.trans HX.out⟩
          · obtain rfl : t = n := by omega
            have HC : Hid ((allN t fun t => decide (m t ≤ 40)) = true) := allN_iff.2 fun i hi => by have := HG.out i hi; simpa using this
            go_wp2_with fail
            go_ret
            exact ⟨by rw [HC.out]; rfl, HE.out.trans HX.out⟩
/-! ### Arguments -/
structure Sts (w : World) (As : Option Addr) (n : Nat) (R : Nat → RN) (F : Nat → Nat → Nat) : Prop where
  rs : Rn w As n R
  hn : n ≤ maxLen
  rd : ∀ i, i < n → Rd w (R i).A (R i).n (F i)
  sl : ∀ i, i < n → SlOk (R i).A (R i).n (R i).c
  bd : ∀ i, i < n → ∀ j, j < (R i).n → F i j < 4294967296
theorem Sts.ext {w w' : World} {As : Option Addr} {n : Nat} {R : Nat → RN} {F : Nat → Nat → Nat} (h : Sts w As n R F) (e : Ext w w') : Sts w' As n R F := ⟨h.rs.ext e, h.hn, fun i hi => (h.rd i hi).ext e, h.sl, h.bd⟩
def stV (R : Nat → RN) (F : Nat → Nat → Nat) (i : Nat) : DV := nrA (R i).neg (R i).n (F i) (R i).den
def stO (R : Nat → RN) (F : Nat → Nat → Nat) (i : Nat) : Bool := vld (R i).neg (R i).n (F i) (R i).den
theorem li_one (w : World) (A : Option Addr) (m c : Nat) (IN : Nat → Int) (t : TypeId) (r : Ri w A m IN) (hm : m ≤ maxLen) :
    Lli (w.alloc (.cells #[.slice A m c] t)) (some ⟨w.heap.size, 0, none⟩) 1 (fun _ => A) (fun _ => m) (fun _ => c) (fun _ => IN) := by
  refine ⟨fun _ => ⟨w.heap.size, 0, rfl, by simp, fun t ht => ?_⟩, fun t _ => ⟨r.ext (Ext.alloc _ _), hm⟩⟩
  obtain rfl : t = 0 := by omega
  go_simp
end Go.Proofs.YtcdkkohklhmpgaaGreatDoor
