/- The law DyadicTexts. -/
import Derived.Test.YtimpgdkeiopboaaGreatDoorPrf
import Derived.Test.YtimpgdkeiopboaaGreatDoorRtx
import Derived.Test.YtimpgdkeiopboaaGreatDoorLawo
import Derived.Deep.RegionHeld3
import Derived.Deep.DeepCutAuto
namespace Go.Proofs.YtimpgdkeiopboaaGreatDoor
open Go.RowKit

theorem text_len {d : DV} (h : Sm d) : (textL d).length ≤ 65536 := by
  obtain ⟨h0, h1, h2⟩ := h
  have hs1 : (Lib.decDigits d.m).length ≤ 30000 := by
    rw [Lib.decDigits_length]
    have h9 := gl_words d.m
    by_cases hm : d.m = 0
    · rw [hm, Lib.nDigits_small (by decide)]; omega
    · have := top_len (m := d.m) (n := gl d.m) (i := gl d.m) rfl (by rw [gl_pos hm]; omega) (Nat.le_refl _)
      rw [Nat.sub_self, Nat.pow_zero, Nat.div_one, Lib.decDigits_length] at this
      omega
  have hs2 : (Lib.decDigits d.den).length ≤ 6 := nd_le (by decide) (by rw [show (10 : Nat) ^ 6 = 1000000 by decide]; omega)
  unfold textL bodyL
  rw [List.length_append, List.length_append]
  have e1 : (if d.neg = true then [(45 : UInt8)] else []).length ≤ 1 := by split <;> simp
  have e2 : (if d.den = 0 then ([] : List UInt8) else [47, 50, 94] ++ Lib.decDigits d.den).length ≤ 9 := by
    split
    · simp
    · rw [List.length_append]; simp; omega
  omega

set_option maxRecDepth 100000 in
set_option maxHeartbeats 2000000 in
theorem texts_off {w : World} {na : Bool} {A : Option Addr} {a0 a1 : Nat} {da : Int} (hT : Tabs w) (h : ¬ fewOk a0 da) :
    Calls Tryz.prog 3 #[dv na A a0 a1 da] w fun e w' => e = .returned (.bool true) ∧ Ext w w' := by
  have HT := Lib.hid hT; clear hT
  have HFW := Lib.hid (few1_not h)
  clear h
  go_enter Tryz.func3, Tryz.ntmps3
  go_wp2_with fail
  have HN := Lib.hid (nums1 (w.alloc (.cells #[.bool na, .slice A a0 a1, I da] 24)) (w.heap.size + 1) (by simp) na A a0 a1 da 24)
  with_reducible refine (few_false HN.out (by simp) (by omega) HFW.out).mono ?_
  rintro e wf ⟨rfl, hx⟩
  have HEF : Hid (Ext w wf) := (((Ext.alloc _ _).trans (Ext.alloc _ _))).trans hx
  clear hx
  go_wp2_with fail
  refine (awake_any _ (HT.out.ext HEF.out)).mono ?_
  rintro e w0 ⟨rfl, hx⟩
  have HEW := Lib.hid (HEF.out.trans hx)
  clear hx
  go_wp2_with fail
  go_ret
  exact ⟨rfl, HEW.out⟩

set_option maxRecDepth 100000 in
set_option maxHeartbeats 8000000 in
theorem texts_true {w : World} {na : Bool} {A A' : Option Addr} {a0 a1 a2 : Nat} {da : Int} {a : DV} (hha : Dy w na A a0 a1 da a A' a2) (hT : Tabs w) (hP : TabP w) (hE : Errs w) (fa : fewOk a0 da) (sa : Sm a) :
    Calls Tryz.prog 3 #[dv na A a0 a1 da] w fun e w' => e = .returned (.bool true) ∧ Ext w w' := by
  have HA0 := Lib.hid hha; have HT0 := Lib.hid hT; have HP0 := Lib.hid hP; have HE0 := Lib.hid hE
  clear hha hT hP hE
  have htl := text_len sa
  obtain ⟨oa, la, ta⟩ := sa
  have HFW := Lib.hid (few1 fa)
  clear fa
  have HTX := Lib.hid (fun w' (x : Ext w w') => text_any (HA0.out.ext x) (HP0.out.ext x) (by omega))
  have HRX := Lib.hid (fun w' (x : Ext w w') => rtext_any (HA0.out.ext x) (by omega))
  have HPX := Lib.hid (fun w' (x : Ext w w') => parse_txt w' (HE0.out.ext x) oa htl (by omega))
  have LA : Hid (len a.m ≤ 1073741824) := by show _ ≤ _; omega
  obtain ⟨TX, hTX⟩ : ∃ t, txtS a = t := ⟨_, rfl⟩
  rw [hTX] at HTX HRX HPX
  clear hTX htl la ta HP0 HE0
  have Sa := Lib.hid (Bx.new w (.bool na) (.slice A a0 a1) (I da) 24).1
  go_enter Tryz.func3, Tryz.ntmps3
  go_wp2_with fail
  have HN := Lib.hid (nums1 (w.alloc (.cells #[.bool na, .slice A a0 a1, I da] 24)) (w.heap.size + 1) (by simp) na A a0 a1 da 24)
  with_reducible refine (few_true HN.out (by simp) (by omega) HFW.out).mono ?_
  rintro e wf ⟨rfl, hx⟩
  have HEF : Hid (Ext w wf) := ((Ext.alloc _ _).trans (Ext.alloc _ _)).trans hx
  have Sb := Lib.hid ((Sa.out.ext (Ext.alloc _ _)).ext hx)
  clear hx HN HFW Sa
  go_wp2_with fail
  refine (awake_any _ (HT0.out.ext HEF.out)).mono ?_
  rintro e w0 ⟨rfl, hx⟩
  have X0 := Lib.hid (HEF.out.trans hx)
  have Sa := Lib.hid (Sb.out.ext hx)
  clear hx Sb HEF HT0
  obtain ⟨z0, z1, z2⟩ := Sa.out
  go_wp2_with (first
    | (go_at_call 8; (with_reducible refine (HPX.out _ (X0.out.trans X1.out)).mono ?_); rintro e w2 ⟨A1, c1, rfl, hon, hx⟩; have X2 := Lib.hid hx; have HI := Lib.hid hon; clear hon hx; obtain ⟨z0, z1, z2⟩ := (Sa.out.ext (X1.out.trans X2.out)).ext (Ext.alloc _ (.cells #[.bool a.neg, .slice A1 (len a.m) c1, I a.den] 24)))
    | (go_at_call 7; (with_reducible refine (HTX.out _ X0.out).mono ?_); rintro e w1 ⟨rfl, hx⟩; have X1 := Lib.hid hx; clear hx; obtain ⟨z0, z1, z2⟩ := Sa.out.ext X1.out))
  have Bb := Lib.hid (St.new w2 (.bool a.neg) (.slice A1 (len a.m) c1) (I a.den) 24)
  have Ba := Lib.hid ((Sa.out.ext (X1.out.trans X2.out)).ext (Ext.alloc w2 (.cells #[.bool a.neg, .slice A1 (len a.m) c1, I a.den] 24)))
  have XW := Lib.hid ((X0.out.trans (X1.out.trans X2.out)).trans (Ext.alloc w2 (.cells #[.bool a.neg, .slice A1 (len a.m) c1, I a.den] 24)))
  have HI2 := Lib.hid (HI.out.rd.ext (Ext.alloc w2 (.cells #[.bool a.neg, .slice A1 (len a.m) c1, I a.den] 24)))
  clear z0 z1 z2 HI Sa X0 X1 X2 HTX HPX
  generalize (w2.alloc (.cells #[.bool a.neg, .slice A1 (len a.m) c1, I a.den] 24)) = W at *
  generalize w2.heap.size = g at *
  have HEW := Lib.hid (XW.out.trans (Ext.drew W))
  have HIB := Lib.hid (fun w' (e : Ext W.drew w') => HI2.out.ext ((Ext.drew W).trans e))
  have HS : Hid (∀ w', Ext W.drew w' → w'.cell? ⟨w.heap.size, 0, none⟩ = some (.bool na) ∧ w'.cell? ⟨w.heap.size, 1, none⟩ = some (.slice A a0 a1) ∧ w'.cell? ⟨w.heap.size, 2, none⟩ = some (I da) ∧ w'.cell? ⟨g, 0, none⟩ = some (.bool a.neg) ∧ w'.cell? ⟨g, 1, none⟩ = some (.slice A1 (len a.m) c1) ∧ w'.cell? ⟨g, 2, none⟩ = some (I a.den)) := fun w' e => by
    obtain ⟨x0, x1, x2⟩ := Ba.out.ext ((Ext.drew _).trans e)
    obtain ⟨x10, x11, x12⟩ := Bb.out.ext ((Ext.drew _).trans e)
    exact ⟨x0, x1, x2, x10, x11, x12⟩
  clear Ba Bb HI2 XW
  have hk := HS.out _ (Ext.refl _)
  go_region_held3 (fun w' => w'.cell? ⟨w.heap.size, 0, none⟩ = some (.bool na) ∧ w'.cell? ⟨w.heap.size, 1, none⟩ = some (.slice A a0 a1) ∧ w'.cell? ⟨w.heap.size, 2, none⟩ = some (I da) ∧ w'.cell? ⟨g, 0, none⟩ = some (.bool a.neg) ∧ w'.cell? ⟨g, 1, none⟩ = some (.slice A1 (len a.m) c1) ∧ w'.cell? ⟨g, 2, none⟩ = some (I a.den))
    (first | assumption | exact hk)
    (first
      | (have hg := HE2; clear hg; go_at_call 10; (with_reducible refine (same_true (d := a) (HIB.out _ (HE1.out.trans HE2.out)) (HA0.out.ext (HEW.out.trans (HE1.out.trans HE2.out))).rd LA.out).mono ?_); rintro e w5 ⟨rfl, hx⟩; have HE3 := Lib.hid hx; clear hx hk; have hk := HS.out _ ((HE1.out.trans HE2.out).trans HE3.out))
      | (have hg := HE1; clear hg; go_at_call 11; (with_reducible refine (HA0.out.norm _ (HEW.out.trans HE1.out)).mono ?_); rintro e w4 ⟨rfl, hx⟩; have HE2 := Lib.hid hx; clear hx hk; have hk := HS.out _ (HE1.out.trans HE2.out))
      | (go_at_call 9; (with_reducible refine (HRX.out _ HEW.out).mono ?_); rintro e w3 ⟨rfl, hx⟩; have HE1 := Lib.hid hx; clear hx hk; have hk := HS.out _ HE1.out))
  all_goals
    go_wp2_with fail
    go_ret
    exact ⟨rfl, HEW.out.trans ((HE1.out.trans HE2.out).trans HE3.out)⟩
end Go.Proofs.YtimpgdkeiopboaaGreatDoor
